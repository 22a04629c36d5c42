package console

import "annals/api"

// reader takes the words of a line, one after the other. Where another word stands than the one that is asked for, it gives up, and takes none any more.
type reader struct {
	words []api.Word // those that are left
	odd   bool       // whether it gave up
}

// more tells whether a word is left to be taken.
func (r *reader) more() bool { return !r.odd && len(r.words) > 0 }

// fits tells whether the words were those that were asked for, and no more.
func (r *reader) fits() bool { return !r.odd && len(r.words) == 0 }

// sees tells whether a word of that kind comes next.
func (r *reader) sees(kind int) bool { return r.more() && r.words[0].Kind == kind }

// insist gives up where something does not hold that has to.
func (r *reader) insist(holds bool) { r.odd = r.odd || !holds }

func (r *reader) take(kind int) api.Word {
	r.insist(r.sees(kind))
	if r.odd {
		return api.Word{}
	}
	w := r.words[0]
	r.words = r.words[1:]
	return w
}

func (r *reader) number() int { return r.take(api.WNumber).Num }

func (r *reader) name() string { return r.take(api.WName).Text }

func (r *reader) literal() string { return r.take(api.WLiteral).Text }

func (r *reader) data() []byte { return []byte(r.literal()) }

func (r *reader) sign(s string) { r.insist(r.take(api.WSign).Text == s) }

// choice takes a name that stands for a number other than 0.
func (r *reader) choice(meaning func(string) int) int {
	n := meaning(r.name())
	r.insist(n != 0)
	return n
}

func (r *reader) options() api.Options {
	v := r.number()
	return api.Options{V: v, Limit: r.number()}
}
