package ship

import (
	"slices"
	"sync"

	"annals/api"
	"annals/store"
)

// Pump brings followers as far as the leader's store goes, side by side, and tells how many answers they took.
func Pump(s *store.Store, fs ...*Follower) (int, error) {
	if s == nil || !areSome(fs) {
		return 0, &Fault{Why: "pump", Err: api.ErrArg}
	}
	taken := 0
	var first error
	for _, r := range runAll(s, fs) {
		taken += r.taken
		if first == nil {
			first = r.err
		}
	}
	return taken, first
}

// areSome tells whether none of the followers is nil, and none stands there twice.
func areSome(fs []*Follower) bool {
	for i, f := range fs {
		if f == nil || slices.Contains(fs[:i], f) {
			return false
		}
	}
	return true
}

// question is an ask on its way to the leader, with the channel on which the answer comes back.
type question struct {
	ask  []byte
	back chan told
}

// told is what the leader answers.
type told struct {
	msg []byte
	err error
}

// run is how a follower has fared.
type run struct {
	taken int
	err   error
}

// runAll lets the followers run side by side. One goroutine alone asks the store, for all of them; when all are through, nobody asks it any more.
func runAll(s *store.Store, fs []*Follower) []run {
	questions := make(chan question)
	out := make([]run, len(fs))
	var leading, following sync.WaitGroup
	leading.Go(func() { lead(s, questions) })
	for i, f := range fs {
		following.Go(func() { out[i] = f.follow(questions) })
	}
	following.Wait()
	close(questions)
	leading.Wait()
	return out
}

// lead answers questions as long as some may come.
func lead(s *store.Store, questions <-chan question) {
	for q := range questions {
		msg, err := Answer(s, q.ask)
		q.back <- told{msg, err}
	}
}

// follow asks and takes till there is nothing new, or something goes wrong.
func (f *Follower) follow(questions chan<- question) run {
	out := run{}
	for {
		took, err := f.round(questions)
		if err != nil || !took {
			out.err = err
			return out
		}
		out.taken++
	}
}

// round is one ask, its answer, and the taking of it.
func (f *Follower) round(questions chan<- question) (bool, error) {
	ask, err := f.Ask()
	if err != nil {
		return false, err
	}
	back := make(chan told)
	questions <- question{ask, back}
	said := <-back
	if said.err != nil {
		return false, said.err
	}
	return f.Take(said.msg)
}
