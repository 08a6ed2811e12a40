package scaler

import (
	"slices"
	"sync"

	"scaler/api"
)

// Run has several controllers decide at the same events, each in a goroutine of its own (P19).
func Run(events api.Seq[api.Event], cs ...*Controller) [][]api.Decision {
	if !apart(cs) {
		return nil
	}
	lists := make([][]api.Decision, len(cs))
	if events == nil || len(cs) == 0 {
		return lists
	}
	r := newRelay(len(cs))
	var working sync.WaitGroup
	for i, c := range cs {
		working.Add(1)
		go func() {
			defer working.Done()
			r.decide(r.inboxes[i], c, &lists[i])
		}()
	}
	r.handOn(events)
	working.Wait()
	return lists
}

// apart tells whether all controllers are there, and none of them twice.
func apart(cs []*Controller) bool {
	for i, c := range cs {
		if c == nil || slices.Contains(cs[:i], c) {
			return false
		}
	}
	return true
}

// relay hands each event on to several goroutines, and takes the next one only when all of them are done with it: so events and the probes may share what they like, and neither is ever ahead of the other.
type relay struct {
	inboxes []chan api.Event
	busy    sync.WaitGroup // with the event that was handed on last
}

func newRelay(inboxes int) *relay {
	r := &relay{inboxes: make([]chan api.Event, inboxes)}
	for i := range r.inboxes {
		r.inboxes[i] = make(chan api.Event)
	}
	return r
}

func (r *relay) handOn(events api.Seq[api.Event]) {
	// Deferred, for events may end this goroutine: the others must end then too.
	defer r.close()
	through(events, func(e api.Event) bool {
		r.busy.Add(len(r.inboxes))
		for _, inbox := range r.inboxes {
			inbox <- e
		}
		r.busy.Wait()
		return true
	})
}

func (r *relay) close() {
	for _, inbox := range r.inboxes {
		close(inbox)
	}
}

// decide lists what a controller decides, till the inbox is closed.
func (r *relay) decide(inbox <-chan api.Event, c *Controller, list *[]api.Decision) {
	defer r.passOver(inbox)
	for _, d := range Decisions(r.received(inbox), c) {
		*list = append(*list, d)
	}
}

// passOver takes what is left in an inbox: a probe may end the goroutine that decides, and nobody must wait for it then.
func (r *relay) passOver(inbox <-chan api.Event) {
	for range inbox {
		r.busy.Done()
	}
}

func (r *relay) received(inbox <-chan api.Event) api.Seq[api.Event] {
	return func(yield func(api.Event) bool) {
		for e := range inbox {
			r.give(e, yield)
		}
	}
}

func (r *relay) give(e api.Event, yield func(api.Event) bool) {
	defer r.busy.Done()
	yield(e)
}
