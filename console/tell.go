package console

import (
	"errors"
	"strconv"
	"strings"

	"annals/api"
	"annals/archive"
	"annals/engine"
	"annals/rewrite"
	"annals/store"
)

// placed is a refusal with its place in a text.
type placed struct {
	api.Errno
	at int
}

// Unwrap is the refusal alone.
func (p *placed) Unwrap() error { return p.Errno }

// done is the answer of a command that is done.
func done(parts []string) string {
	var out strings.Builder
	out.WriteString("ok")
	for _, p := range parts {
		out.WriteString(" ")
		out.WriteString(p)
	}
	return out.String()
}

// refused is the answer of a command that is refused. An engine's or an archive's fault may lie around a rewriting's, and each of them around a store's, never the other way: asked for in this order, they are told from the outermost one on.
func refused(err error) string {
	var why api.Errno
	errors.As(err, &why)
	out := "error " + strconv.Itoa(int(why))
	var p *placed
	if errors.As(err, &p) {
		out += " at " + strconv.Itoa(p.at)
	}
	var ofEngine *engine.Fault
	if errors.As(err, &ofEngine) {
		out += " engine " + strconv.Itoa(ofEngine.Saga)
	}
	var ofArchive *archive.Fault
	if errors.As(err, &ofArchive) {
		out += " archive " + ofArchive.Why
	}
	var ofRewrite *rewrite.Fault
	if errors.As(err, &ofRewrite) {
		out += " rewrite " + ofRewrite.Why
	}
	var ofStore *store.Fault
	if errors.As(err, &ofStore) {
		out += " store " + ofStore.Op + " " + fileName(ofStore.Name) + " " + strconv.Itoa(ofStore.At)
	}
	return out
}

func fileName(name string) string {
	if name == "" {
		return "-"
	}
	return name
}

// numbers are told one behind the other.
func numbers(list ...int) []string {
	var out []string
	for _, n := range list {
		out = append(out, strconv.Itoa(n))
	}
	return out
}

// canonical is a JSON text as a command tells it, or why there is none.
func canonical(b []byte, e api.Errno) ([]string, error) {
	if e != api.OK {
		return nil, e
	}
	return []string{string(b)}, nil
}
