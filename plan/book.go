package plan

import (
	"maps"
	"slices"

	"annals/api"
)

// Book is a number of plans.
type Book struct {
	plans map[string]api.Plan // by name
}

// NewBook reads plans, one a line, or tells the number of the first line that is refused.
func NewBook(lines ...string) (*Book, api.Errno, int) {
	plans := map[string]api.Plan{}
	for i, line := range lines {
		p, e, _ := Parse(line)
		if e != api.OK {
			return nil, e, i
		}
		if _, known := plans[p.Name]; known {
			return nil, api.ErrTwice, i
		}
		plans[p.Name] = p
	}
	return &Book{plans}, api.OK, 0
}

// Find tells the plan of a name.
func (k *Book) Find(name string) (api.Plan, bool) {
	p, is := k.plans[name]
	p.Steps = slices.Clone(p.Steps)
	return p, is
}

// Names tells all plans' names, rising.
func (k *Book) Names() []string { return slices.Sorted(maps.Keys(k.plans)) }
