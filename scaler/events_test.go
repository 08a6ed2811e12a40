package scaler_test

import (
	"errors"
	"runtime"
	"slices"
	"testing"

	"scaler/api"
	"scaler/scaler"
)

func fed(name string, value, at int64) api.Event {
	return api.Event{Name: name, Value: value, Time: at}
}

// ticked: Name and Value of a tick do not matter, so they are such as would be fed.
func ticked(at int64) api.Event { return api.Event{Tick: true, Name: "n", Value: 77, Time: at} }

// source hands over events, counts those that were taken, and how often it is gone through; it panics at event bad (below 0: nowhere; as many as there are: at the end).
type source struct {
	events       []api.Event
	bad          int
	with         any
	taken, begun int
}

func sourceOf(events ...api.Event) *source { return &source{events: events, bad: -1} }

func (s *source) all(yield func(api.Event) bool) {
	s.begun++
	for i, e := range s.events {
		if i == s.bad {
			panic(s.with)
		}
		s.taken++
		if !yield(e) {
			return
		}
	}
	if s.bad == len(s.events) {
		panic(s.with)
	}
}

// someEvents: four ticks, of which last(n,99) makes 3, 6, 6 and 2, and a sample behind them.
func someEvents() []api.Event {
	return []api.Event{fed("n", 3, 0), ticked(1), fed("n", 5, 2), fed("n", 6, 3), ticked(4), ticked(5), fed("n", 2, 6), ticked(7), fed("n", 9, 8)}
}

func someDecisions() []api.Decision {
	return []api.Decision{{Time: 1, Count: 3}, {Time: 4, Count: 6}, {Time: 5, Count: 6}, {Time: 7, Count: 2}}
}

// someTaken: how many events are taken when the first, second .. tick is given.
func someTaken() []int { return []int{2, 5, 6, 8} }

// decisionsOf goes through all, and holds the numbers against their order.
func decisionsOf(t *testing.T, seq api.Seq2[int, api.Decision]) []api.Decision {
	t.Helper()
	if seq == nil {
		t.Fatal("P18: there is no iterator")
	}
	var list []api.Decision
	for i, d := range seq {
		if i != len(list) {
			t.Errorf("P18: tick %d is told as %d", len(list), i)
		}
		list = append(list, d)
	}
	return list
}

func checkDecisions(t *testing.T, got, want []api.Decision) {
	t.Helper()
	if len(got) != len(want) {
		t.Errorf("P18, P19: %+v, want %+v", got, want)
		return
	}
	for i := range got {
		checkDecision(t, got[i], want[i])
	}
}

func checkTaken(t *testing.T, s *source, taken int) {
	t.Helper()
	if s.taken != taken {
		t.Errorf("P18, P19: %d events are taken, want %d", s.taken, taken)
	}
}

func TestP18Ordinary(t *testing.T) {
	s := sourceOf(someEvents()...)
	checkDecisions(t, decisionsOf(t, scaler.Decisions(s.all, mustBegin(t, "last(n,99)", free(), 0))), someDecisions())
	checkTaken(t, s, 9)
	if s.begun != 1 {
		t.Errorf("P18: events is gone through %d times", s.begun)
	}
}

func TestP18Example(t *testing.T) {
	s := sourceOf(fed("n", 9, 0), ticked(0), ticked(1), ticked(3), fed("n", 0, 4), ticked(4), ticked(8), ticked(13), ticked(14))
	c := mustBegin(t, "last(n,10)", api.Limits{Min: 1, Max: 9, Step: 2, Up: 3, Down: 5}, 4)
	checkDecisions(t, decisionsOf(t, scaler.Decisions(s.all, c)), []api.Decision{
		{Time: 0, Count: 6}, {Time: 1, Count: 6, Err: api.ErrCooling}, {Time: 3, Count: 8}, {Time: 4, Count: 8, Err: api.ErrCooling},
		{Time: 8, Count: 6}, {Time: 13, Count: 4}, {Time: 14, Count: 4, Err: &api.HoldError{Err: api.ErrNoData}},
	})
}

func TestP18TakesNothingTooEarly(t *testing.T) {
	for stop := 1; stop <= 5; stop++ {
		s := sourceOf(someEvents()...)
		c := mustBegin(t, "last(n,99)", free(), 0)
		seq := scaler.Decisions(s.all, c)
		checkTaken(t, s, 0)
		given := 0
		for i, d := range seq {
			checkTaken(t, s, someTaken()[i])
			checkDecision(t, d, someDecisions()[i])
			if given++; given == stop {
				break
			}
		}
		if stop == 5 { // there is no fifth tick: it went to the end
			checkTaken(t, s, 9)
			checkTick(t, c, 8, 9, nil)
			continue
		}
		checkTaken(t, s, someTaken()[stop-1])
		last := someDecisions()[stop-1]
		checkTick(t, c, last.Time, last.Count, nil)
	}
}

func TestP18NothingBeforeItIsGoneThrough(t *testing.T) {
	s := sourceOf(someEvents()...)
	s.bad = 0
	c := mustBegin(t, "last(n,99)", free(), 0)
	scaler.Decisions(s.all, c)
	if s.begun != 0 {
		t.Error("P18: events is begun before the caller goes through it")
	}
	checkTickHold(t, c, least, 0, 0, api.ErrNoData)
}

func TestP18WhatFeedAnswersDoesNotMatter(t *testing.T) {
	s := sourceOf(fed("m", 1, 50), fed("n", 4, 5), fed("n", 8, 4), fed("", 8, 9), ticked(5), fed("n", 8, least), ticked(5))
	checkDecisions(t, decisionsOf(t, scaler.Decisions(s.all, mustBegin(t, "last(n,9)", free(), 0))), []api.Decision{{Time: 5, Count: 4}, {Time: 5, Count: 4}})
	checkTaken(t, s, 7)
}

// Each tick is given, and has its number, whatever it comes to.
func TestP18HeldTicks(t *testing.T) {
	s := sourceOf(ticked(3), ticked(2), fed("n", 0, 3), ticked(3), fed("n", 2, 3), ticked(4), ticked(least), ticked(greatest))
	c := mustBegin(t, "8/last(n,2)", api.Limits{Max: 9, Step: 9, Up: greatest}, 0)
	checkDecisions(t, decisionsOf(t, scaler.Decisions(s.all, c)), []api.Decision{
		{Time: 3, Err: &api.HoldError{Place: api.Place{At: 2}, Err: api.ErrNoData}}, {Time: 2, Err: api.ErrStale}, {Time: 3, Err: &api.HoldError{Place: api.Place{At: 1}, Err: api.ErrDivide}},
		{Time: 4, Count: 4}, {Time: least, Count: 4, Err: api.ErrStale}, {Time: greatest, Count: 4, Err: &api.HoldError{Place: api.Place{At: 2}, Err: api.ErrNoData}},
	})
}

func TestP18NothingThere(t *testing.T) {
	s := sourceOf(someEvents()...)
	refused, _ := scaler.New(nil, free(), 0)
	for _, seq := range []api.Seq2[int, api.Decision]{scaler.Decisions(nil, mustBegin(t, "1", free(), 0)), scaler.Decisions(nil, nil), scaler.Decisions(s.all, nil), scaler.Decisions(s.all, refused)} {
		for range 2 {
			checkDecisions(t, decisionsOf(t, seq), nil)
		}
	}
	if s.begun != 0 {
		t.Error("P18: without a controller events is gone through")
	}
	checkDecisions(t, decisionsOf(t, scaler.Decisions(sourceOf().all, mustBegin(t, "1", free(), 0))), nil)
	checkDecisions(t, decisionsOf(t, scaler.Decisions(sourceOf(fed("n", 1, 1)).all, mustBegin(t, "1", free(), 0))), nil)
}

func TestP18EventsPanics(t *testing.T) {
	var none []int
	for _, with := range []any{"a text", 7, nil, errors.New("an error"), api.ErrStale, &none} {
		for bad := range len(someEvents()) + 1 {
			s := sourceOf(someEvents()...)
			s.bad, s.with = bad, with
			c := mustBegin(t, "last(n,99)", free(), 0)
			given, _ := slices.BinarySearch(someTaken(), bad+1)
			checkDecisions(t, decisionsOf(t, scaler.Decisions(s.all, c)), someDecisions()[:given])
			checkTaken(t, s, bad)
			// The events till then count, and the controller can be used on.
			checkFeed(t, c, "n", 50, 8, nil)
			checkTick(t, c, 8, 50, nil)
		}
	}
	wild := func(yield func(api.Event) bool) {
		yield(ticked(0))
		yield(ticked(int64(none[3])))
	}
	checkDecisions(t, decisionsOf(t, scaler.Decisions(wild, mustBegin(t, "1", free(), 0))), []api.Decision{{Count: 1}})
}

// A panic as it cleans up, behind the tick at which the caller stopped, is one of events too.
func TestP18EventsPanicsWhenStopped(t *testing.T) {
	s := sourceOf(someEvents()...)
	events := func(yield func(api.Event) bool) {
		defer func() { panic("cleaning up") }()
		s.all(yield)
	}
	for range scaler.Decisions(events, mustBegin(t, "last(n,99)", free(), 0)) {
		break
	}
	checkTaken(t, s, 2)
}

// sources: events as they are, and such as recover what comes through them, or make another panic of it.
func sources(s *source) map[string]api.Seq[api.Event] {
	return map[string]api.Seq[api.Event]{
		"plain": s.all,
		"recovers": func(yield func(api.Event) bool) {
			defer func() { recover() }()
			s.all(yield)
		},
		"recovers and goes on": func(yield func(api.Event) bool) {
			for _, e := range s.events {
				func() {
					defer func() { recover() }()
					s.taken++
					yield(e)
				}()
			}
		},
		"panics anew": func(yield func(api.Event) bool) {
			defer func() { panic("another") }()
			s.all(yield)
		},
		"pushes": func(yield func(api.Event) bool) {
			for e := range api.Seq[api.Event](s.all) {
				if !yield(e) {
					break
				}
			}
		},
	}
}

// caught is the value with which a function panics.
func caught(function func()) (value any) {
	defer func() { value = recover() }()
	function()
	return nil
}

func TestP18TheCallersOwnPanic(t *testing.T) {
	own := errors.New("mine")
	for at := range 4 {
		for name := range sources(sourceOf()) {
			s := sourceOf(someEvents()...)
			c := mustBegin(t, "last(n,99)", free(), 0)
			given := 0
			body := func(i int, d api.Decision) bool {
				given++
				if i == at {
					panic(own)
				}
				return true
			}
			if value := caught(func() { scaler.Decisions(sources(s)[name], c)(body) }); value != own {
				t.Errorf("P18: events %s: the caller's own panic comes out as %v", name, value)
			}
			if given != at+1 {
				t.Errorf("P18: events %s: %d ticks are given, want %d", name, given, at+1)
			}
			last := someDecisions()[at]
			checkTick(t, c, last.Time, last.Count, nil)
			value := caught(func() {
				for i := range scaler.Decisions(sources(s)[name], mustBegin(t, "last(n,99)", free(), 0)) {
					if i == at {
						panic(own)
					}
				}
			})
			if value != own {
				t.Errorf("P18: events %s: in a loop the caller's own panic comes out as %v", name, value)
			}
		}
	}
}

// What panics around the going through is nobody's here: neither recovered nor taken for the caller's own.
func TestP18WithinAPanic(t *testing.T) {
	s := sourceOf(someEvents()...)
	value := caught(func() {
		defer func() {
			checkDecisions(t, decisionsOf(t, scaler.Decisions(s.all, mustBegin(t, "last(n,99)", free(), 0))), someDecisions())
		}()
		panic("around")
	})
	if value != "around" {
		t.Errorf("P18: a panic around it comes out as %v", value)
	}
	late := func(yield func(api.Event) bool) {
		defer func() { yield(ticked(2)) }()
		yield(ticked(1))
		panic("the source")
	}
	checkDecisions(t, decisionsOf(t, scaler.Decisions(late, mustBegin(t, "1", free(), 0))), []api.Decision{{Time: 1, Count: 1}, {Time: 2, Count: 1}})
}

// A body that ends its goroutine (as a test does that fails) ends it.
func TestP18TheCallerEndsItsGoroutine(t *testing.T) {
	s := sourceOf(someEvents()...)
	c := mustBegin(t, "last(n,99)", free(), 0)
	on := false
	ended := make(chan int)
	go func() {
		defer close(ended)
		for range scaler.Decisions(s.all, c) {
			runtime.Goexit()
		}
		on = true
	}()
	<-ended
	if on {
		t.Error("P18: what ends the caller's goroutine is recovered")
	}
	checkTaken(t, s, 2)
	checkTick(t, c, 1, 3, nil)
}

// Events that does not heed the answer hands over on and on; nothing of that is fed, decided or given.
func TestP18EventsDoesNotHeed(t *testing.T) {
	answers := []bool{}
	deaf := func(yield func(api.Event) bool) {
		for _, e := range someEvents() {
			answers = append(answers, yield(e))
		}
	}
	c := mustBegin(t, "last(n,99)", free(), 0)
	given := 0
	scaler.Decisions(deaf, c)(func(int, api.Decision) bool { given++; return given < 2 })
	if want := []bool{true, true, true, true, false, false, false, false, false}; given != 2 || !slices.Equal(answers, want) {
		t.Errorf("P18: %d ticks are given, events is told %v", given, answers)
	}
	checkTick(t, c, 4, 6, nil)
}

func TestP18EventsKeepsWhatItHandsTo(t *testing.T) {
	var kept func(api.Event) bool
	keeping := func(yield func(api.Event) bool) {
		kept = yield
		yield(ticked(1))
	}
	c := mustBegin(t, "count(n,99)", free(), 7)
	for range scaler.Decisions(keeping, c) {
		if kept(ticked(50)) {
			t.Error("P18: an event is taken while the caller has not asked for it")
		}
	}
	if kept(fed("n", 1, 50)) || kept(ticked(50)) {
		t.Error("P18: an event is taken when all is over")
	}
	checkTick(t, c, 1, 0, nil)
}

// Gone through again it begins to count anew; the controller goes on from where it is.
func TestP18Again(t *testing.T) {
	s := sourceOf(ticked(1), fed("n", 4, 2), ticked(3))
	c := mustBegin(t, "count(n,99)", free(), 9)
	seq := scaler.Decisions(s.all, c)
	checkDecisions(t, decisionsOf(t, seq), []api.Decision{{Time: 1}, {Time: 3, Count: 1}})
	s.events = []api.Event{ticked(3), fed("n", 4, 3), ticked(2), ticked(3)}
	checkDecisions(t, decisionsOf(t, seq), []api.Decision{{Time: 3, Count: 1}, {Time: 2, Count: 1, Err: api.ErrStale}, {Time: 3, Count: 2}})
	for range seq {
		break
	}
	checkDecisions(t, decisionsOf(t, seq), []api.Decision{{Time: 3, Count: 2}, {Time: 2, Count: 2, Err: api.ErrStale}, {Time: 3, Count: 3}})
	if s.begun != 4 {
		t.Errorf("P18: events is gone through %d times, want 4", s.begun)
	}
}

// The body may use the controller, and go through the same iterator, in between.
func TestP18CallsWithinIt(t *testing.T) {
	s := sourceOf(ticked(1), ticked(2))
	c := mustBegin(t, "count(n,99)", free(), 9)
	seq := scaler.Decisions(s.all, c)
	var inner, outer []api.Decision
	for i, d := range seq {
		outer = append(outer, d)
		checkFeed(t, c, "n", 1, d.Time, nil)
		if i == 0 {
			inner = decisionsOf(t, seq)
		}
	}
	checkDecisions(t, outer, []api.Decision{{Time: 1}, {Time: 2, Count: 1}})
	checkDecisions(t, inner, []api.Decision{{Time: 1, Count: 1}, {Time: 2, Count: 1}})
}

// An iterator over an iterator over an iterator: what one controller decides is a sample for the next one, and no link takes too early.
func TestP18OneBehindAnother(t *testing.T) {
	s := sourceOf(someEvents()...)
	first := scaler.Decisions(s.all, mustBegin(t, "last(n,99)", free(), 0))
	events := func(yield func(api.Event) bool) {
		for _, d := range first {
			if !yield(fed("count", d.Count, d.Time)) || !yield(ticked(d.Time)) {
				return
			}
		}
	}
	second := scaler.Decisions(events, mustBegin(t, "sum(count,99)", free(), 0))
	checkTaken(t, s, 0)
	for i, d := range second {
		checkTaken(t, s, someTaken()[i])
		checkDecision(t, d, api.Decision{Time: someDecisions()[i].Time, Count: []int64{3, 9, 15}[i]})
		if i == 2 {
			break
		}
	}
	checkTaken(t, s, 6)
}

// A probe that panics or fails is Eval's matter, not that of events.
func TestP18ProbesPanic(t *testing.T) {
	s := sourceOf(ticked(1), ticked(2))
	c := mustBegin(t, "1+boom(1,2)", free(), 5)
	held := &api.HoldError{Place: api.Place{At: 2}, Err: &api.PanicError{Value: int64(2)}}
	checkDecisions(t, decisionsOf(t, scaler.Decisions(s.all, c)), []api.Decision{{Time: 1, Count: 5, Err: held}, {Time: 2, Count: 5, Err: held}})
}
