package scaler_test

import (
	"math/rand"
	"runtime"
	"slices"
	"sync"
	"sync/atomic"
	"testing"
	"time"

	"scaler/api"
	"scaler/scaler"
)

func checkRun(t *testing.T, got [][]api.Decision, want ...[]api.Decision) {
	t.Helper()
	if got == nil || len(got) != len(want) {
		t.Fatalf("P19: %+v, want %+v", got, want)
	}
	for i := range got {
		checkDecisions(t, got[i], want[i])
	}
}

// counts: decisions at the times of someEvents, without an error.
func counts(list ...int64) []api.Decision {
	out := someDecisions()[:len(list)]
	for i := range list {
		out[i].Count = list[i]
	}
	return out
}

func TestP19Ordinary(t *testing.T) {
	for range 50 {
		s := sourceOf(someEvents()...)
		a, b := mustBegin(t, "last(n,99)", free(), 0), mustBegin(t, "count(n,99)", free(), 0)
		c, d := mustBegin(t, "most(n,3)", free(), 0), mustBegin(t, "7", api.Limits{Max: 9, Step: 2}, 0)
		checkRun(t, scaler.Run(s.all, a, b, c, d), counts(3, 6, 6, 2), counts(1, 3, 3, 4), counts(3, 6, 6, 2), counts(2, 4, 6, 7))
		checkTaken(t, s, 9)
		if s.begun != 1 {
			t.Fatalf("P19: events is gone through %d times", s.begun)
		}
		// The sample behind the last tick was fed too.
		checkTick(t, a, 8, 9, nil)
		checkTick(t, b, 8, 5, nil)
	}
}

func TestP19OneController(t *testing.T) {
	s := sourceOf(someEvents()...)
	checkRun(t, scaler.Run(s.all, mustBegin(t, "last(n,99)", free(), 0)), someDecisions())
	checkTaken(t, s, 9)
}

func TestP19Refused(t *testing.T) {
	a, b := mustBegin(t, "last(n,99)", free(), 0), mustBegin(t, "last(n,99)", free(), 0)
	refused, _ := scaler.New(nil, free(), 0)
	s := sourceOf(someEvents()...)
	for _, cs := range [][]*scaler.Controller{{nil}, {a, nil}, {nil, a}, {a, refused, b}, {nil, nil}, {a, a}, {a, b, a}, {b, a, a}, {a, b, b, nil}} {
		for _, events := range []api.Seq[api.Event]{s.all, nil} {
			if out := scaler.Run(events, cs...); out != nil {
				t.Errorf("P19: %v: %+v, want nil", cs, out)
			}
		}
	}
	if s.begun != 0 {
		t.Error("P19: events is gone through, though a controller is nil or stands there twice")
	}
	// Nothing was turned.
	checkTickHold(t, a, least, 0, 0, api.ErrNoData)
	checkTickHold(t, b, least, 0, 0, api.ErrNoData)
}

func TestP19WithoutControllers(t *testing.T) {
	s := sourceOf(someEvents()...)
	for _, events := range []api.Seq[api.Event]{s.all, nil} {
		checkRun(t, scaler.Run(events))
		checkRun(t, scaler.Run(events, []*scaler.Controller{}...))
	}
	if s.begun != 0 {
		t.Error("P19: without controllers events is gone through")
	}
}

func TestP19WithoutEventsOrTicks(t *testing.T) {
	a, b := mustBegin(t, "count(n,99)", free(), 4), mustBegin(t, "count(n,99)", free(), 5)
	checkRun(t, scaler.Run(nil, a, b), nil, nil)
	checkRun(t, scaler.Run(sourceOf().all, a, b), nil, nil)
	checkRun(t, scaler.Run(sourceOf(fed("n", 1, 2), fed("n", 1, 3)).all, b, a), nil, nil)
	checkTick(t, a, 3, 2, nil)
	checkTick(t, b, 3, 2, nil)
}

func TestP19EventsPanics(t *testing.T) {
	for _, with := range []any{"a text", nil, api.ErrStale} {
		for bad := range len(someEvents()) + 1 {
			s := sourceOf(someEvents()...)
			s.bad, s.with = bad, with
			a, b := mustBegin(t, "last(n,99)", free(), 0), mustBegin(t, "count(n,99)", free(), 0)
			given, _ := slices.BinarySearch(someTaken(), bad+1)
			checkRun(t, scaler.Run(s.all, a, b), counts(3, 6, 6, 2)[:given], counts(1, 3, 3, 4)[:given])
			checkTaken(t, s, bad)
			checkFeed(t, a, "n", 50, 8, nil)
			checkTick(t, a, 8, 50, nil)
		}
	}
}

// Controllers go on from where they are, with what Feed and Tick made of them.
func TestP19Again(t *testing.T) {
	a, b := mustBegin(t, "sum(n,99)", free(), 9), mustBegin(t, "last(n,99)", free(), 9)
	checkFeed(t, a, "n", 5, 1, nil)
	s := sourceOf(fed("n", 1, 0), ticked(1), fed("n", 2, 1), ticked(2))
	checkRun(t, scaler.Run(s.all, a, b), []api.Decision{{Time: 1, Count: 5}, {Time: 2, Count: 7}}, []api.Decision{{Time: 1, Count: 1}, {Time: 2, Count: 2}})
	stale := []api.Decision{{Time: 1, Count: 2, Err: api.ErrStale}, {Time: 2, Count: 2}}
	checkRun(t, scaler.Run(s.all, b), stale)
	checkTick(t, a, 2, 7, nil)
}

func TestP19HeldTicks(t *testing.T) {
	s := sourceOf(ticked(3), ticked(2), fed("m", 1, 9), fed("n", 4, 3), ticked(3), ticked(4))
	no := &api.HoldError{Err: api.ErrNoData}
	panicked := &api.HoldError{Place: api.Place{At: 2}, Err: &api.PanicError{Value: int64(1)}}
	out := scaler.Run(s.all, mustBegin(t, "last(n,1)", free(), 8), mustBegin(t, "0+boom(3)", free(), 8), mustBegin(t, "9", api.Limits{Max: 9, Step: 1, Up: 1}, 6))
	checkRun(t, out,
		[]api.Decision{{Time: 3, Count: 8, Err: no}, {Time: 2, Count: 8, Err: api.ErrStale}, {Time: 3, Count: 4}, {Time: 4, Count: 4, Err: no}},
		[]api.Decision{{Time: 3, Count: 8, Err: panicked}, {Time: 2, Count: 8, Err: api.ErrStale}, {Time: 3, Count: 8, Err: panicked}, {Time: 4, Count: 8, Err: panicked}},
		[]api.Decision{{Time: 3, Count: 7}, {Time: 2, Count: 7, Err: api.ErrStale}, {Time: 3, Count: 7, Err: api.ErrCooling}, {Time: 4, Count: 8}})
}

func TestP19OneProgramForMany(t *testing.T) {
	g := mustLoad(t, "add(last(n,99),count(n,3))", given())
	var cs []*scaler.Controller
	var want [][]api.Decision
	for i := range int64(100) {
		l := api.Limits{Max: 9, Step: 1 + i%9, Up: i % 4}
		c, err := scaler.New(g, l, i%10)
		twin, err2 := scaler.New(g, l, i%10)
		if err != nil || err2 != nil {
			t.Fatal(err, err2)
		}
		cs = append(cs, c)
		want = append(want, decisionsOf(t, scaler.Decisions(sourceOf(someEvents()...).all, twin)))
	}
	s := sourceOf(someEvents()...)
	checkRun(t, scaler.Run(s.all, cs...), want...)
	checkTaken(t, s, 9)
}

// Each of the probes waits till all controllers have come to that tick: they can only do so side by side.
func TestP19AGoroutineForEach(t *testing.T) {
	const many, ticks = 5, 20
	var meeting sync.WaitGroup
	probes := map[string]api.Probe{"meet": func(...int64) (int64, error) {
		meeting.Done()
		meeting.Wait()
		return 1, nil
	}}
	g := mustLoad(t, "meet()", probes)
	var cs []*scaler.Controller
	for range many {
		c, err := scaler.New(g, free(), 0)
		if err != nil {
			t.Fatal(err)
		}
		cs = append(cs, c)
	}
	events := func(yield func(api.Event) bool) {
		for i := range int64(ticks) {
			meeting.Add(many)
			yield(ticked(i))
		}
	}
	for _, list := range scaler.Run(events, cs...) {
		if len(list) != ticks {
			t.Errorf("P19: %d decisions, want %d", len(list), ticks)
		}
	}
}

// What events does ahead of a tick is done when the tick is decided, and what the probes do is done when the next event is asked for: no goroutine is ahead of it. No lock: a race would show with -race.
func TestP2RunInStepWithEvents(t *testing.T) {
	load, asked := int64(0), make([]int64, 8)
	var cs []*scaler.Controller
	for i := range asked {
		probes := map[string]api.Probe{"load": func(...int64) (int64, error) { asked[i]++; return load, nil }}
		c, err := scaler.New(mustLoad(t, "load()", probes), free(), 0)
		if err != nil {
			t.Fatal(err)
		}
		cs = append(cs, c)
	}
	const ticks = 500
	events := func(yield func(api.Event) bool) {
		for i := range int64(ticks) {
			load = i * i
			if !yield(ticked(i)) {
				t.Error("P19: events is told to stop")
			}
			for k, n := range asked {
				if n != i+1 {
					t.Errorf("P2: behind tick %d controller %d has asked %d times", i, k, n)
				}
			}
		}
		load = -1
	}
	for k, list := range scaler.Run(events, cs...) {
		if len(list) != ticks {
			t.Fatalf("P19: controller %d: %d decisions", k, len(list))
		}
		for i, d := range list {
			checkDecision(t, d, api.Decision{Time: int64(i), Count: int64(i * i)})
		}
	}
}

// settled waits till no more goroutines run than that: one that has told that it ends may take a moment to be gone.
func settled(before int) bool {
	for range 10000 {
		if runtime.NumGoroutine() <= before {
			return true
		}
		time.Sleep(time.Millisecond)
	}
	return false
}

func TestP19AllHaveEnded(t *testing.T) {
	var inside atomic.Int64
	probes := map[string]api.Probe{"f": func(...int64) (int64, error) {
		inside.Add(1)
		for range 50 {
			runtime.Gosched()
		}
		inside.Add(-1)
		return 3, nil
	}}
	before := runtime.NumGoroutine()
	for bad := range 5 {
		s := sourceOf(ticked(1), ticked(2), ticked(3))
		s.bad = bad
		var cs []*scaler.Controller
		for range 20 {
			c, err := scaler.New(mustLoad(t, "f()", probes), free(), 0)
			if err != nil {
				t.Fatal(err)
			}
			cs = append(cs, c)
		}
		for _, list := range scaler.Run(s.all, cs...) {
			if n := inside.Load(); n != 0 {
				t.Fatalf("P19: %d controllers still decide when Run answers", n)
			}
			checkDecisions(t, list, []api.Decision{{Time: 1, Count: 3}, {Time: 2, Count: 3}, {Time: 3, Count: 3}}[:min(bad, 3)])
		}
		scaler.Run(s.all, append(cs, nil)...)
		scaler.Run(nil, cs...)
	}
	if !settled(before) {
		t.Errorf("P19: %d goroutines, before it %d", runtime.NumGoroutine(), before)
	}
}

// On one processor a goroutine that Run waits for is gone when Run answers, but for the rare round in which it is held up at its very end; one that Run does not wait for has not even begun to end.
func TestP19RunWaitsForAll(t *testing.T) {
	defer runtime.GOMAXPROCS(runtime.GOMAXPROCS(1))
	gone := 0
	for range 50 {
		cs := []*scaler.Controller{mustBegin(t, "1", free(), 0), mustBegin(t, "2", free(), 0), mustBegin(t, "3", free(), 0)}
		before := runtime.NumGoroutine()
		scaler.Run(sourceOf(ticked(1), ticked(2)).all, cs...)
		if runtime.NumGoroutine() <= before {
			gone++
		}
		if !settled(before) {
			t.Fatal("P19: a goroutine does not end")
		}
	}
	if gone < 25 {
		t.Errorf("P19: in %d of 50 rounds a goroutine has not ended when Run answers", 50-gone)
	}
}

// A probe may end the goroutine in which its controller decides: Run ends all the same, and the others decide on.
func TestP1ProbeEndsItsGoroutine(t *testing.T) {
	before := runtime.NumGoroutine()
	asked := 0
	probes := map[string]api.Probe{"quit": func(...int64) (int64, error) {
		if asked++; asked == 2 {
			runtime.Goexit()
		}
		return 1, nil
	}}
	quitting, err := scaler.New(mustLoad(t, "quit()", probes), free(), 0)
	if err != nil {
		t.Fatal(err)
	}
	s := sourceOf(someEvents()...)
	out := scaler.Run(s.all, mustBegin(t, "last(n,99)", free(), 0), quitting, mustBegin(t, "count(n,99)", free(), 0))
	checkRun(t, out, counts(3, 6, 6, 2), counts(1), counts(1, 3, 3, 4))
	checkTaken(t, s, 9)
	if !settled(before) {
		t.Error("P19: a goroutine has not ended")
	}
}

// Events may end the goroutine of Run's caller: then nobody hears an answer, but those of the controllers end too.
func TestP1EventsEndsItsGoroutine(t *testing.T) {
	before := runtime.NumGoroutine()
	ended := make(chan int)
	c := mustBegin(t, "last(n,99)", free(), 0)
	go func() {
		defer close(ended)
		scaler.Run(func(yield func(api.Event) bool) {
			yield(fed("n", 4, 1))
			runtime.Goexit()
		}, c, mustBegin(t, "1", free(), 0))
	}()
	<-ended
	if !settled(before) {
		t.Error("P1: a goroutine has not ended")
	}
	checkTick(t, c, 1, 4, nil)
}

// The list of controllers is the caller's, who may write into it while Run goes on; it is not written into.
func TestP2RunKeepsNoList(t *testing.T) {
	a, b := mustBegin(t, "last(n,99)", free(), 0), mustBegin(t, "count(n,99)", free(), 0)
	cs := []*scaler.Controller{a, b, nil}
	s := sourceOf(someEvents()...)
	out := scaler.Run(func(yield func(api.Event) bool) {
		cs[0], cs[1] = nil, nil
		s.all(yield)
	}, cs[:2]...)
	checkRun(t, out, counts(3, 6, 6, 2), counts(1, 3, 3, 4))
	cs = []*scaler.Controller{a, b, nil}
	scaler.Run(sourceOf(ticked(9)).all, cs[:2]...)
	if !slices.Equal(cs, []*scaler.Controller{a, b, nil}) {
		t.Error("P2: the list of controllers is written into")
	}
}

func TestP2RunGivesFreshLists(t *testing.T) {
	a, b := mustBegin(t, "last(n,99)", free(), 0), mustBegin(t, "count(n,99)", free(), 0)
	out := scaler.Run(sourceOf(someEvents()...).all, a, b)
	later := scaler.Run(sourceOf(ticked(9)).all, a, b)
	for i := range out[0][:cap(out[0])] {
		out[0][:cap(out[0])][i] = api.Decision{Time: -1}
	}
	checkDecisions(t, out[1], counts(1, 3, 3, 4))
	checkRun(t, later, []api.Decision{{Time: 9, Count: 9}}, []api.Decision{{Time: 9, Count: 5}})
	checkTick(t, a, 9, 9, nil)
}

func TestP19EventsKeepsWhatItHandsTo(t *testing.T) {
	var kept func(api.Event) bool
	c := mustBegin(t, "count(n,99)", free(), 7)
	out := scaler.Run(func(yield func(api.Event) bool) {
		kept = yield
		yield(ticked(1))
	}, c)
	checkRun(t, out, []api.Decision{{Time: 1}})
	if kept(fed("n", 1, 50)) || kept(ticked(50)) {
		t.Error("P19: an event is taken when all is over")
	}
	checkDecisions(t, out[0], []api.Decision{{Time: 1}})
	checkTick(t, c, 1, 0, nil)
}

// Runs within a run: events of one may come from another one, and a probe may run controllers of its own.
func TestP19RunWithinRun(t *testing.T) {
	inner := mustBegin(t, "last(n,99)", free(), 0)
	probes := map[string]api.Probe{"run": func(...int64) (int64, error) {
		out := scaler.Run(sourceOf(someEvents()...).all, mustBegin(t, "last(n,99)", free(), 0), mustBegin(t, "count(n,99)", free(), 0))
		return out[0][3].Count*10 + out[1][3].Count, nil
	}}
	c, err := scaler.New(mustLoad(t, "run()", probes), free(), 0)
	if err != nil {
		t.Fatal(err)
	}
	events := func(yield func(api.Event) bool) {
		for _, d := range scaler.Run(sourceOf(someEvents()...).all, inner)[0] {
			yield(fed("n", d.Count, d.Time))
		}
		yield(ticked(9))
	}
	checkRun(t, scaler.Run(events, c, mustBegin(t, "sum(n,99)", free(), 0)), []api.Decision{{Time: 9, Count: 24}}, []api.Decision{{Time: 9, Count: 17}})
}

// drawnEvents: times mostly go on, and metrics are mostly measured.
func drawnEvents(r *rand.Rand) []api.Event {
	var out []api.Event
	now, rare := int64(least), 2+r.Intn(6)
	for range r.Intn(60) {
		at := nextTime(r, now)
		now = max(now, at)
		e := fed([]string{"a", "a", "a", "größe", "sum", "b"}[r.Intn(6)], drawnValue(r), at)
		e.Tick = r.Intn(rare) == 0
		out = append(out, e)
	}
	return out
}

// decided is P18 written out once more, by a decider; the events till bad.
func (d *decider) decided(events []api.Event, bad int) []api.Decision {
	var out []api.Decision
	for i, e := range events {
		if i == bad {
			break
		}
		if e.Tick {
			out = append(out, d.tick(e.Time))
		} else {
			d.feed(e.Name, e.Value, e.Time)
		}
	}
	return out
}

// drawnTwins: two controllers that are alike, and what they are held against.
func drawnTwins(t *testing.T, r *rand.Rand) (a, b *scaler.Controller, d *decider) {
	t.Helper()
	src := measures(r)
	for len(src) > api.MaxText {
		src = measures(r)
	}
	g := mustLoad(t, src, steady())
	l, count := drawnLimits(r)
	a, err := scaler.New(g, l, count)
	b, err2 := scaler.New(g, l, count)
	if err != nil || err2 != nil {
		t.Fatalf("P14: New(%+v, %d): %v, %v", l, count, err, err2)
	}
	return a, b, newDecider(g, l, count)
}

func TestP18P19MadeRuns(t *testing.T) {
	r := rand.New(rand.NewSource(19))
	ticks := 0
	for range 800 {
		events := drawnEvents(r)
		bad := -1
		if r.Intn(3) == 0 {
			bad = r.Intn(len(events) + 1)
		}
		var cs []*scaler.Controller
		var want [][]api.Decision
		for range r.Intn(6) {
			a, b, d := drawnTwins(t, r)
			list := d.decided(events, bad)
			s := &source{events: events, bad: bad}
			checkDecisions(t, decisionsOf(t, scaler.Decisions(s.all, a)), list)
			cs, want = append(cs, b), append(want, list)
			ticks += len(list)
		}
		s := &source{events: events, bad: bad}
		checkRun(t, scaler.Run(s.all, cs...), want...)
		if t.Failed() {
			t.Fatalf("events %+v, bad %d", events, bad)
		}
	}
	if ticks < 5000 {
		t.Errorf("only %d ticks were drawn", ticks)
	}
}
