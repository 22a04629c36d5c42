package store

import (
	"errors"
	"strconv"

	"annals/api"
)

const (
	noRecord = -1 // At of a fault that is about none of the records that were handed in
	opOpen   = "open"
)

// Fault: which operation failed, at which file or record, and why.
type Fault struct {
	Op   string
	Name string // of the file, or ""
	At   int    // which record, or -1
	Err  error
}

// Error tells the fault in words.
func (f *Fault) Error() string {
	out := f.Op
	if f.Name != "" {
		out += " " + f.Name
	}
	if f.At >= 0 {
		out += " #" + strconv.Itoa(f.At)
	}
	if f.Err == nil {
		return out + ": nothing"
	}
	return out + ": " + f.Err.Error()
}

// Unwrap is why.
func (f *Fault) Unwrap() error { return f.Err }

// because is a fault of a whole call; nil of OK.
func because(e api.Errno) error { return about("", e) }

// about is a fault that knows its file; nil of OK.
func about(name string, e api.Errno) error {
	if e == api.OK {
		return nil
	}
	return &Fault{Name: name, At: noRecord, Err: e}
}

// told is the error of a call as its face answers it: the fault that some step made, and now the call that it was. Steps make no other errors.
func told(op string, err error) error {
	var f *Fault
	if !errors.As(err, &f) {
		return nil
	}
	f.Op = op
	// That the disk is down is the fault of no file; and of segments' files Open alone tells, which looks for what is wrong with them.
	if errors.Is(err, api.ErrDown) || op != opOpen && f.Name != manifestName {
		f.Name = ""
	}
	return f
}
