package disk

import "annals/api"

const (
	firstByte = '!'
	lastByte  = '~'
	slash     = '/'
)

func isName(name string) bool {
	if len(name) == 0 || len(name) > api.MaxPath {
		return false
	}
	for i := range len(name) {
		if c := name[i]; c < firstByte || c > lastByte || c == slash {
			return false
		}
	}
	return true
}

// change is a name change: the file that was under from is under to. Of a file that is made from is empty, of one that loses its name to is.
type change struct {
	from, to string
	file     *file
}

// do takes from away ahead of giving to, as both may be the same.
func (c change) do(names map[string]*file) {
	delete(names, c.from)
	if c.to != "" {
		names[c.to] = c.file
	}
}

// change does a name change, and keeps it for Crash.
func (d *Disk) change(c change) {
	c.do(d.names)
	d.changes = append(d.changes, c)
}
