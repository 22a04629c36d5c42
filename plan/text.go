package plan

import (
	"strconv"
	"strings"

	"annals/api"
	"annals/text"
)

// Print writes a plan's text.
func Print(p api.Plan) (string, api.Errno) {
	if e := Check(p); e != api.OK {
		return "", e
	}
	var steps []string
	for i := range p.Steps {
		steps = append(steps, stepText(p, i))
	}
	return p.Name + ": " + strings.Join(steps, ", "), api.OK
}

func stepText(p api.Plan, i int) string {
	s := p.Steps[i]
	t := s.Do
	if s.Tries > 1 {
		t += "*" + strconv.Itoa(s.Tries)
	}
	if aheadOfPivot(p, i) {
		t += "~" + s.Undo
	}
	if isPivot(p, i) {
		t += "!"
	}
	return t
}

// Parse reads a plan's text, or tells where it is none.
func Parse(line string) (api.Plan, api.Errno, int) {
	words, e, at := text.Words(line)
	if e != api.OK {
		return api.Plan{}, e, at
	}
	r := reader{words: words, end: len(line)}
	if !r.whole() {
		return api.Plan{}, api.ErrLine, r.place()
	}
	e, step := fault(r.plan)
	if e != api.OK {
		return api.Plan{}, e, r.at[step]
	}
	written, _ := Print(r.plan)
	if line != written {
		return api.Plan{}, api.ErrLine, parting(line, written)
	}
	return r.plan, api.OK, 0
}

// parting is the place of the first byte at which two texts are not the same.
func parting(a, b string) int {
	n := min(len(a), len(b))
	for i := range n {
		if a[i] != b[i] {
			return i
		}
	}
	return n
}

// reader takes the plan that a line says, word by word. A word is taken only where it may stand, so the first one that may not is the first of those that are left.
type reader struct {
	words []api.Word // those that are left
	end   int        // the line's length
	plan  api.Plan
	at    []int // where the Do of each step stands
}

// place is where the first word stands that is left.
func (r *reader) place() int {
	if len(r.words) == 0 {
		return r.end
	}
	return r.words[0].At
}

// take takes a word of that kind, if it comes next.
func (r *reader) take(kind int) (api.Word, bool) {
	if len(r.words) == 0 || r.words[0].Kind != kind {
		return api.Word{}, false
	}
	w := r.words[0]
	r.words = r.words[1:]
	return w, true
}

// sign takes that sign, if it comes next.
func (r *reader) sign(s string) bool {
	if len(r.words) == 0 || r.words[0].Text != s {
		return false
	}
	_, is := r.take(api.WSign) // a literal may have the same text
	return is
}

// whole takes a plan, and tells whether all words were taken.
func (r *reader) whole() bool {
	name, is := r.take(api.WName)
	if !is || !r.sign(":") || !r.step() {
		return false
	}
	r.plan.Name = name.Text
	for len(r.words) > 0 {
		if !r.sign(",") || !r.step() {
			return false
		}
	}
	return true
}

func (r *reader) step() bool {
	do, is := r.take(api.WName)
	if !is {
		return false
	}
	s := api.Step{Do: do.Text, Tries: 1}
	if r.plan.Pivot != 0 {
		s.Tries = 0
	}
	if !r.tries(&s) || !r.ending(&s) {
		return false
	}
	r.plan.Steps = append(r.plan.Steps, s)
	r.at = append(r.at, do.At)
	return true
}

// tries takes how often a step is tried, if it is said.
func (r *reader) tries(s *api.Step) bool {
	if !r.sign("*") {
		return true
	}
	n, is := r.take(api.WNumber)
	s.Tries = n.Num
	return is
}

// ending takes a step's undoing, or that it is the pivot, if one of them is said; a second pivot is left.
func (r *reader) ending(s *api.Step) bool {
	if r.plan.Pivot == 0 && r.sign("!") {
		r.plan.Pivot = len(r.plan.Steps) + 1
		return true
	}
	if !r.sign("~") {
		return true
	}
	undo, is := r.take(api.WName)
	s.Undo = undo.Text
	return is
}
