package scaler_test

import (
	"errors"
	"slices"
	"strings"
	"testing"

	"scaler/api"
	"scaler/scaler"
)

// free: limits that hold nothing back.
func free() api.Limits { return api.Limits{Max: greatest, Step: greatest} }

func mustBegin(t *testing.T, src string, l api.Limits, count int64) *scaler.Controller {
	t.Helper()
	c, err := scaler.New(mustLoad(t, src, given()), l, count)
	if c == nil || err != nil {
		t.Fatalf("P14: New(%q, %+v, %d) = %v, %v, want a controller", src, l, count, c, err)
	}
	return c
}

func checkFeed(t *testing.T, c *scaler.Controller, name string, value, at int64, want error) {
	t.Helper()
	if err := c.Feed(name, value, at); err != want {
		t.Errorf("P15: Feed(%q, %d, %d) = %v, want %v", name, value, at, err, want)
	}
}

// checkTick asks for the error itself: those that it is used for are told by themselves.
func checkTick(t *testing.T, c *scaler.Controller, at, count int64, why error) {
	t.Helper()
	if d, want := c.Tick(at), (api.Decision{Time: at, Count: count, Err: why}); d != want {
		t.Errorf("P16: Tick(%d) = %+v, want %+v", at, d, want)
	}
}

func checkTickHold(t *testing.T, c *scaler.Controller, at, count int64, place int, why error) {
	t.Helper()
	d := c.Tick(at)
	h, ok := d.Err.(*api.HoldError)
	if d.Time != at || d.Count != count || !ok || h.At != place || h.Err != why {
		t.Errorf("P16: Tick(%d) = %+v, want the count %d and a HoldError of %v at %d", at, d, count, why, place)
	}
}

func TestP14Limits(t *testing.T) {
	g := mustLoad(t, "1", nil)
	for _, c := range []struct {
		min, max, step, up, down, count int64
		ok                              bool
	}{
		{1, 9, 2, 3, 5, 4, true}, {0, 0, 1, 0, 0, 0, true}, {5, 5, 1, 0, 0, 5, true}, {1, 9, 1, 0, 0, 1, true}, {1, 9, 1, 0, 0, 9, true}, {0, 9, 99, 0, 0, 0, true},
		{greatest, greatest, greatest, greatest, greatest, greatest, true}, {0, greatest, 1, 0, 0, 0, true}, {0, greatest, 1, 0, 0, greatest, true},
		{-1, 9, 1, 0, 0, 4, false}, {-1, 9, 1, 0, 0, -1, false}, {least, 9, 1, 0, 0, 4, false}, {-2, -1, 1, 0, 0, -1, false},
		{5, 4, 1, 0, 0, 4, false}, {5, 4, 1, 0, 0, 5, false}, {0, -1, 1, 0, 0, 0, false}, {0, -1, 1, 0, 0, -1, false}, {greatest, 0, 1, 0, 0, 5, false}, {1, least, 1, 0, 0, 1, false},
		{0, 9, 0, 0, 0, 4, false}, {0, 9, -1, 0, 0, 4, false}, {0, 9, least, 0, 0, 4, false},
		{0, 9, 1, -1, 0, 4, false}, {0, 9, 1, least, 0, 4, false}, {0, 9, 1, 0, -1, 4, false}, {0, 9, 1, 0, least, 4, false},
		{1, 9, 1, 0, 0, 0, false}, {1, 9, 1, 0, 0, 10, false}, {0, 9, 1, 0, 0, -1, false}, {0, 9, 1, 0, 0, least, false}, {0, 9, 1, 0, 0, greatest, false}, {0, greatest - 1, 1, 0, 0, greatest, false},
		{0, 0, 0, 0, 0, 0, false}, {-1, -2, 0, -1, -1, 5, false},
	} {
		l := api.Limits{Min: c.min, Max: c.max, Step: c.step, Up: c.up, Down: c.down}
		x, err := scaler.New(g, l, c.count)
		if c.ok && (x == nil || err != nil) {
			t.Errorf("P14: New(%+v, %d) = %v, %v, want a controller", l, c.count, x, err)
		}
		if !c.ok && (x != nil || err != api.ErrLimits) {
			t.Errorf("P14: New(%+v, %d) = %v, %v, want ErrLimits", l, c.count, x, err)
		}
	}
}

func TestP14NoProgram(t *testing.T) {
	missing, _ := scaler.Load(mustParse(t, "f()").Code(), nil)
	for _, g := range []*scaler.Program{nil, missing} {
		for _, l := range []api.Limits{free(), {}, {Min: -1}} {
			if c, err := scaler.New(g, l, 0); c != nil || err != api.ErrLimits {
				t.Errorf("P14: New(nil, %+v) = %v, %v, want ErrLimits", l, c, err)
			}
		}
	}
}

func TestP14FirstTime(t *testing.T) {
	for _, first := range []int64{least, least + 1, -1, 0, 1, greatest} {
		c := mustBegin(t, "count(n,1)", free(), 5)
		checkFeed(t, c, "n", 7, first, nil)
		checkTick(t, c, first, 1, nil)
		c = mustBegin(t, "count(n,1)", free(), 5)
		checkTick(t, c, first, 0, nil)
		checkFeed(t, c, "n", 7, first, nil)
		checkTick(t, c, first, 1, nil)
	}
}

func TestP14ControllersApart(t *testing.T) {
	g := mustLoad(t, "last(n,10)", nil)
	a, _ := scaler.New(g, free(), 1)
	b, _ := scaler.New(g, api.Limits{Max: 3, Step: 1}, 2)
	checkFeed(t, a, "n", 9, 5, nil)
	checkTickHold(t, b, 0, 2, 0, api.ErrNoData)
	checkFeed(t, b, "n", 0, 1, nil)
	checkTick(t, a, 5, 9, nil)
	checkTick(t, b, 1, 1, nil)
	checkTick(t, a, 4, 9, api.ErrStale)
	checkTick(t, b, 4, 0, nil)
}

func TestP1NilController(t *testing.T) {
	c, _ := scaler.New(nil, free(), 0)
	if err := c.Feed("n", 1, 2); err == nil {
		t.Error("P1: Feed of no controller tells no error")
	}
	if d := c.Tick(3); d.Time != 3 || d.Count != 0 || d.Err == nil {
		t.Errorf("P1: Tick of no controller = %+v", d)
	}
}

func TestP15StaleAheadOfMetric(t *testing.T) {
	c := mustBegin(t, "count(n,100)", free(), 0)
	checkFeed(t, c, "m", 1, least, api.ErrMetric)
	checkFeed(t, c, "n", 1, 5, nil)
	for _, past := range []int64{4, 0, -1, least} {
		checkFeed(t, c, "n", 2, past, api.ErrStale)
		checkFeed(t, c, "m", 2, past, api.ErrStale)
	}
	for _, on := range []int64{5, 6, greatest} {
		checkFeed(t, c, "m", 2, on, api.ErrMetric)
	}
}

func TestP15ErrorsTurnNothing(t *testing.T) {
	c := mustBegin(t, "count(n,100)*1000+sum(n,100)", free(), 3)
	checkFeed(t, c, "n", 1, 5, nil)
	checkFeed(t, c, "n", 20, 4, api.ErrStale)
	checkFeed(t, c, "m", 20, 5, api.ErrMetric)
	checkFeed(t, c, "m", 20, greatest, api.ErrMetric)
	checkFeed(t, c, "n", 2, 5, nil)
	checkTick(t, c, 5, 2003, nil)
	checkFeed(t, c, "n", 20, 4, api.ErrStale)
	checkTick(t, c, 5, 2003, nil)
	checkTick(t, c, 4, 2003, api.ErrStale)
	checkFeed(t, c, "n", 3, 5, nil)
	checkTick(t, c, 5, 3006, nil)
}

func TestP15TimeOfFeedAndTick(t *testing.T) {
	c := mustBegin(t, "count(a,100)+10*count(b,100)", free(), 0)
	checkFeed(t, c, "a", 1, 10, nil)
	checkFeed(t, c, "b", 1, 9, api.ErrStale)
	checkTick(t, c, 9, 0, api.ErrStale)
	checkFeed(t, c, "b", 1, 10, nil)
	checkTick(t, c, 12, 11, nil)
	checkFeed(t, c, "a", 1, 11, api.ErrStale)
	checkFeed(t, c, "a", 1, 12, nil)
	checkTick(t, c, 12, 12, nil)
	// A tick that changes nothing lets time pass too.
	checkTick(t, c, 13, 12, nil)
	checkFeed(t, c, "a", 1, 12, api.ErrStale)
}

func TestP15Names(t *testing.T) {
	c := mustBegin(t, "add(sum(größe,9),0?last(kept,9):1,count(sum,9))", free(), 0)
	for _, name := range []string{"größe", "kept", "sum"} {
		checkFeed(t, c, name, 1, 0, nil)
	}
	for _, name := range []string{"", "g", "größ", "größen", "Größe", "gro\u0308ße", "add", "count", "last", "sum(größe,9)", " sum", "\xff", strings.Repeat("n", 1000)} {
		checkFeed(t, c, name, 1, 0, api.ErrMetric)
	}
	for _, src := range []string{"1", "add(1)", "fail()"} {
		c := mustBegin(t, src, free(), 0)
		checkFeed(t, c, "", 1, 0, api.ErrMetric)
		checkFeed(t, c, "n", 1, 0, api.ErrMetric)
		checkFeed(t, c, "add", 1, 0, api.ErrMetric)
		checkFeed(t, c, "add", 1, least, api.ErrMetric)
	}
}

// The digits of the count: how many samples there are in each window.
func TestP15AllWindowsOfTheMetric(t *testing.T) {
	c := mustBegin(t, "count(n,1)+10*count(n,3)+100*count(n,9)+1000*count(m,9)+10000*count(n,0)+100000*count(n,3)", free(), 0)
	checkFeed(t, c, "n", 5, 1, nil)
	checkTick(t, c, 1, 100111, nil)
	checkFeed(t, c, "n", 5, 2, nil)
	checkTick(t, c, 2, 200221, nil)
	checkFeed(t, c, "m", 5, 3, nil)
	checkTick(t, c, 3, 201220, nil)
	checkTick(t, c, 4, 101210, nil)
	checkTick(t, c, 10, 1100, nil)
	checkTick(t, c, 11, 1000, nil)
	checkTick(t, c, 12, 0, nil)
}

func TestP16KindsOfMeasure(t *testing.T) {
	for _, c := range []struct {
		kind                          string
		wide, narrow, atTheEnd, alone int64
	}{
		{"sum", 7, 2, 4, 5}, {"count", 3, 2, 1, 1}, {"least", -2, -2, 4, 5}, {"most", 5, 4, 4, 5}, {"mean", 2, 1, 4, 5}, {"last", 4, 4, 4, 5},
	} {
		checkMeasure := func(width string, at, want int64) {
			t.Helper()
			x := mustBegin(t, c.kind+"(n,"+width+")+100", free(), 50)
			checkFeed(t, x, "n", 5, 1, nil)
			checkFeed(t, x, "n", -2, 3, nil)
			checkFeed(t, x, "n", 4, 4, nil)
			checkTick(t, x, at, want+100, nil)
		}
		checkMeasure("9", 4, c.wide)
		checkMeasure("009", 4, c.wide)
		checkMeasure("999999999", 999999999, c.wide)
		checkMeasure("3", 5, c.narrow)
		checkMeasure("3", 4, c.narrow)
		checkMeasure("1", 4, c.atTheEnd)
		checkMeasure("3", 6, c.atTheEnd)
		x := mustBegin(t, c.kind+"(n,1)+100", free(), 50)
		checkFeed(t, x, "n", 5, 1, nil)
		checkTick(t, x, 1, c.alone+100, nil)
	}
}

func TestP16NothingToMeasure(t *testing.T) {
	for _, kind := range []string{"sum", "count", "least", "most", "mean", "last"} {
		always := kind == "sum" || kind == "count"
		checkNone := func(x *scaler.Controller, at int64) {
			t.Helper()
			if always {
				checkTick(t, x, at, 8, nil)
			} else {
				checkTickHold(t, x, at, 50, 2, api.ErrNoData)
			}
		}
		checkNone(mustBegin(t, "8+"+kind+"(n,9)", free(), 50), least)
		checkNone(mustBegin(t, "8+"+kind+"(n,9)", free(), 50), 0)
		for _, width := range []string{"0", "000", "1", "9"} {
			x := mustBegin(t, "8+"+kind+"(n,"+width+")+0*count(other,9)", free(), 50)
			checkFeed(t, x, "n", 3, 0, nil)
			checkFeed(t, x, "other", 3, 9, nil)
			checkNone(x, 9)
		}
	}
}

func TestP16SumsAndMeans(t *testing.T) {
	for _, c := range []struct {
		values    []int64
		sum, mean int64
	}{
		{[]int64{0}, 0, 0}, {[]int64{-1}, -1, -1}, {[]int64{3, 4}, 7, 3}, {[]int64{-3, -4}, -7, -4}, {[]int64{-1, 0}, -1, -1}, {[]int64{1, 0, 0}, 1, 0}, {[]int64{-1, 0, 0}, -1, -1}, {[]int64{-2, -2, -2}, -6, -2}, {[]int64{1, -1}, 0, 0},
		{[]int64{greatest}, greatest, greatest}, {[]int64{greatest, 1}, greatest, greatest / 2}, {[]int64{greatest, greatest}, greatest, greatest / 2},
		{[]int64{least}, least, least}, {[]int64{least, -1}, least, least / 2}, {[]int64{least, least}, least, least / 2}, {[]int64{least, 0, 0}, least, least/3 - 1}, {[]int64{least, 0, 0, 0, 0, 0, 0}, least, least/7 - 1},
		// From the oldest on: another order would end elsewhere.
		{[]int64{greatest, 1, -1}, greatest - 1, (greatest - 1) / 3}, {[]int64{greatest, -1, 1}, greatest, greatest / 3}, {[]int64{-1, 1, greatest}, greatest, greatest / 3}, {[]int64{1, greatest, -1}, greatest - 1, (greatest - 1) / 3},
		{[]int64{least, -1, 1}, least + 1, (least+1)/3 - 1}, {[]int64{1, least, -1}, least, least/3 - 1}, {[]int64{least, least, greatest, greatest}, greatest - 1, (greatest - 1) / 4}, {[]int64{greatest, greatest, least, least}, least, least / 4}, {[]int64{greatest, least, greatest, least}, -2, -1},
	} {
		// A policy cannot write the ends: it asks whether what is measured lies above, at or below what another metric's sample is.
		for kind, want := range map[string]int64{"sum": c.sum, "mean": c.mean} {
			x := mustBegin(t, kind+"(n,9)<last(x,9)?0:"+kind+"(n,9)=last(x,9)?1:2", free(), 50)
			checkFeed(t, x, "x", want, 0, nil)
			for i, v := range c.values {
				checkFeed(t, x, "n", v, int64(i/3), nil)
			}
			if d := x.Tick(2); d != (api.Decision{Time: 2, Count: 1}) {
				t.Errorf("P16: the %s of %d is not %d: %+v", kind, c.values, want, d)
			}
		}
	}
}

func TestP16NewestSixteen(t *testing.T) {
	const src = "sum(n,5)*1000+least(n,5)*100+count(n,5)"
	c := mustBegin(t, src, free(), 0)
	for i := range int64(16) {
		checkFeed(t, c, "n", i, 0, nil)
	}
	checkTick(t, c, 0, 120016, nil)
	checkFeed(t, c, "n", 16, 1, nil)
	checkTick(t, c, 1, 136116, nil)
	for range 14 {
		checkFeed(t, c, "n", 1, 2, nil)
	}
	checkTick(t, c, 2, 45116, nil)
	// What left by number does not come back when newer ones leave by time.
	checkTick(t, c, 5, 30115, nil)
	checkTick(t, c, 6, 14114, nil)
	checkTickHold(t, c, 7, 14114, 14, api.ErrNoData)
}

// A measure that is first worked out late has had all samples from the beginning on.
func TestP16FromTheBeginningOn(t *testing.T) {
	c := mustBegin(t, "last(on,100)?count(n,8)*100+sum(n,8):1", free(), 1)
	checkFeed(t, c, "on", 0, 0, nil)
	for i := range int64(20) {
		checkFeed(t, c, "n", 1+i%2, i/4, nil)
		checkTick(t, c, i/4, 1, nil)
	}
	checkFeed(t, c, "on", 1, 5, nil)
	checkTick(t, c, 5, 1624, nil)
	checkFeed(t, c, "on", 0, 5, nil)
	checkTick(t, c, 8, 1, nil)
	checkFeed(t, c, "on", 1, 9, nil)
	checkTick(t, c, 9, 1218, nil)
	checkTick(t, c, 11, 406, nil)
}

func TestP16LastAndOrderAtOneTime(t *testing.T) {
	c := mustBegin(t, "last(n,1)", free(), 0)
	for _, v := range []int64{5, 9, 3, 7, 3} {
		checkFeed(t, c, "n", v, 4, nil)
		checkTick(t, c, 4, v, nil)
		checkTick(t, c, 4, v, nil)
	}
}

func TestP16WindowsNearTheEndsOfTime(t *testing.T) {
	c := mustBegin(t, "count(n,3)", free(), 9)
	checkFeed(t, c, "n", 1, least, nil)
	checkTick(t, c, least+2, 1, nil)
	checkTick(t, c, least+3, 0, nil)
	checkFeed(t, c, "n", 1, greatest-2, nil)
	checkTick(t, c, greatest-2, 1, nil)
	checkFeed(t, c, "n", 1, greatest-1, nil)
	checkTick(t, c, greatest, 2, nil)
	checkFeed(t, c, "n", 1, greatest, nil)
	checkTick(t, c, greatest, 3, nil)
	checkTick(t, c, least, 3, api.ErrStale)
	c = mustBegin(t, "count(n,3)", free(), 9)
	checkFeed(t, c, "n", 1, least, nil)
	checkTick(t, c, greatest, 0, nil)
}

func TestP16StaleTurnsNothing(t *testing.T) {
	asked := 0
	probes := map[string]api.Probe{"f": func(...int64) (int64, error) { asked++; return 7, nil }}
	c, err := scaler.New(mustLoad(t, "count(n,5)*10+f()", probes), api.Limits{Max: 99, Step: 99, Up: 3}, 4)
	if err != nil {
		t.Fatal(err)
	}
	checkFeed(t, c, "n", 1, 10, nil)
	for _, past := range []int64{9, 0, -1, least} {
		checkTick(t, c, past, 4, api.ErrStale)
	}
	if asked != 0 {
		t.Errorf("P16: a stale tick evaluates the program")
	}
	checkTick(t, c, 10, 17, nil)
	checkTick(t, c, 9, 17, api.ErrStale)
	checkFeed(t, c, "n", 1, 11, nil)
	checkTick(t, c, 12, 17, api.ErrCooling)
	checkTick(t, c, 11, 17, api.ErrStale)
	checkTick(t, c, 13, 27, nil)
	if asked != 3 {
		t.Errorf("P16: the program was evaluated %d times, want 3", asked)
	}
}

func TestP16ErrorsOfEval(t *testing.T) {
	l := api.Limits{Min: 2, Max: 9, Step: 1}
	checkTickHold(t, mustBegin(t, "1/0", l, 4), 0, 4, 1, api.ErrDivide)
	checkTickHold(t, mustBegin(t, "1+fail(3)", l, 4), 0, 4, 2, errOwn)
	checkTickHold(t, mustBegin(t, " last(n,3)/0", l, 4), 0, 4, 1, api.ErrNoData)
	checkTick(t, mustBegin(t, "1?5:1/0", l, 4), 0, 5, nil)
	d := mustBegin(t, "3*boom(1,2)", l, 4).Tick(-8)
	h, ok := d.Err.(*api.HoldError)
	if !ok || d.Time != -8 || d.Count != 4 || h.At != 2 {
		t.Fatalf("P16: a probe's panic: %+v", d)
	}
	if p, ok := h.Err.(*api.PanicError); !ok || p.Value != int64(2) {
		t.Errorf("P16: a probe's panic: %v", h.Err)
	}
}

// A tick that comes to an error of Eval lets time pass, but is no change.
func TestP16HeldTicks(t *testing.T) {
	c := mustBegin(t, "8/last(n,2)", api.Limits{Max: 9, Step: 1, Up: 3, Down: 3}, 4)
	checkTickHold(t, c, 0, 4, 2, api.ErrNoData)
	checkFeed(t, c, "n", 1, -1, api.ErrStale)
	checkFeed(t, c, "n", 0, 0, nil)
	checkTickHold(t, c, 0, 4, 1, api.ErrDivide)
	checkFeed(t, c, "n", 1, 0, nil)
	checkTick(t, c, 0, 5, nil)
	checkTickHold(t, c, 2, 5, 2, api.ErrNoData)
	checkFeed(t, c, "n", 1, 3, nil)
	checkTick(t, c, 3, 6, nil)
}

func TestP17Example(t *testing.T) {
	c := mustBegin(t, "last(n,10)", api.Limits{Min: 1, Max: 9, Step: 2, Up: 3, Down: 5}, 4)
	checkFeed(t, c, "n", 9, 0, nil)
	checkTick(t, c, 0, 6, nil)
	checkTick(t, c, 1, 6, api.ErrCooling)
	checkTick(t, c, 3, 8, nil)
	checkFeed(t, c, "n", 0, 4, nil)
	checkTick(t, c, 4, 8, api.ErrCooling)
	checkTick(t, c, 8, 6, nil)
	checkTick(t, c, 13, 4, nil)
	checkTickHold(t, c, 14, 4, 0, api.ErrNoData)
}

// Where one step leads: wanted is a sample's value.
func TestP17WantedAndStep(t *testing.T) {
	for _, c := range []struct{ min, max, step, count, value, want int64 }{
		{0, 9, 9, 4, 4, 4}, {0, 9, 9, 4, 7, 7}, {0, 9, 9, 4, 1, 1}, {0, 9, 9, 4, 0, 0}, {0, 9, 9, 4, 9, 9},
		{2, 7, 9, 4, 8, 7}, {2, 7, 9, 4, 7, 7}, {2, 7, 9, 4, 1, 2}, {2, 7, 9, 4, -5, 2}, {2, 7, 9, 7, 9, 7}, {2, 7, 9, 2, 0, 2}, {4, 4, 1, 4, 9, 4}, {4, 4, 1, 4, 0, 4},
		{0, 9, 2, 4, 5, 5}, {0, 9, 2, 4, 6, 6}, {0, 9, 2, 4, 7, 6}, {0, 9, 2, 4, 3, 3}, {0, 9, 2, 4, 2, 2}, {0, 9, 2, 4, 1, 2}, {0, 9, 1, 4, 9, 5}, {0, 9, 1, 4, 0, 3}, {0, 5, 2, 4, 9, 5}, {3, 9, 2, 4, 0, 3},
		{0, 9, 9, 4, greatest, 9}, {0, 9, 9, 4, least, 0}, {0, 9, greatest, 4, greatest, 9}, {0, 9, greatest, 4, least, 0},
		{0, greatest, greatest, 0, greatest, greatest}, {0, greatest, greatest, greatest, least, 0}, {0, greatest, greatest, greatest, 0, 0}, {0, greatest, greatest - 1, 0, greatest, greatest - 1}, {0, greatest, greatest - 1, greatest, 0, 1}, {0, greatest, 1, greatest - 1, greatest, greatest}, {0, greatest, 5, greatest - 1, greatest, greatest}, {0, greatest, greatest, 7, greatest, greatest}, {greatest - 1, greatest, 3, greatest, 0, greatest - 1},
	} {
		l := api.Limits{Min: c.min, Max: c.max, Step: c.step}
		x := mustBegin(t, "last(n,1)", l, c.count)
		checkFeed(t, x, "n", c.value, 0, nil)
		checkTick(t, x, 0, c.want, nil)
		if t.Failed() {
			t.Fatalf("P17: %+v, count %d, value %d", l, c.count, c.value)
		}
	}
}

func TestP17StepByStep(t *testing.T) {
	c := mustBegin(t, "last(n,9)", api.Limits{Max: 9, Step: 4}, 0)
	checkFeed(t, c, "n", 20, 0, nil)
	for _, want := range []int64{4, 8, 9, 9} {
		checkTick(t, c, 0, want, nil)
	}
	checkFeed(t, c, "n", -20, 0, nil)
	for _, want := range []int64{5, 1, 0, 0} {
		checkTick(t, c, 0, want, nil)
	}
}

// A change at one time, and the next one, up or down, at another: is that too soon?
func TestP17Pauses(t *testing.T) {
	for _, c := range []struct {
		pause, change, then int64
		cooling             bool
	}{
		{0, 0, 0, false}, {1, 0, 0, true}, {1, 0, 1, false}, {3, 5, 7, true}, {3, 5, 8, false}, {3, 5, 9, false}, {3, -1, 1, true}, {3, -1, 2, false},
		{0, least, least, false}, {1, least, least, true}, {1, least, least + 1, false}, {0, greatest, greatest, false}, {1, greatest, greatest, true}, {1, greatest - 1, greatest, false}, {2, greatest - 1, greatest, true},
		{greatest, 0, greatest, false}, {greatest, 0, greatest - 1, true}, {greatest, 1, greatest, true}, {greatest, greatest, greatest, true},
		{greatest, least, -1, false}, {greatest, least, -2, true}, {greatest, least, 0, false}, {greatest, least, 1, false}, {greatest, least, greatest, false}, {greatest, least + 1, greatest, false}, {greatest, least, least, true}, {5, least, greatest, false}, {greatest, -1, greatest - 1, false}, {greatest, -1, greatest - 2, true}, {greatest, -2, greatest, false},
	} {
		checkPause(t, api.Limits{Max: 99, Step: 10, Up: c.pause}, 99, 70, c.change, c.then, c.cooling)
		checkPause(t, api.Limits{Max: 99, Step: 10, Down: c.pause}, 0, 50, c.change, c.then, c.cooling)
		checkPause(t, api.Limits{Max: 99, Step: 10, Up: c.pause, Down: c.pause}, 60, 60, c.change, c.then, false)
	}
}

// checkPause: the first change always goes up, from 50 to 60: which span counts hangs on where the next one leads.
func checkPause(t *testing.T, l api.Limits, wanted, count, change, then int64, cooling bool) {
	t.Helper()
	value := int64(99)
	probes := map[string]api.Probe{"wanted": func(...int64) (int64, error) { return value, nil }}
	c, err := scaler.New(mustLoad(t, "wanted()", probes), l, 50)
	if err != nil {
		t.Fatal(err)
	}
	checkTick(t, c, change, 60, nil)
	value = wanted
	if cooling {
		checkTick(t, c, then, 60, api.ErrCooling)
	} else {
		checkTick(t, c, then, count, nil)
	}
	if t.Failed() {
		t.Fatalf("P17: %+v, a change at %d, then %d is wanted at %d", l, change, wanted, then)
	}
}

func TestP17FirstChangeIsFree(t *testing.T) {
	l := api.Limits{Max: 9, Step: 1, Up: greatest, Down: greatest}
	for _, at := range []int64{least, least + 1, -1, 0, 1, greatest} {
		checkTick(t, mustBegin(t, "9", l, 4), at, 5, nil)
		checkTick(t, mustBegin(t, "0", l, 4), at, 3, nil)
		c := mustBegin(t, "last(n,1)", l, 4)
		checkFeed(t, c, "n", 4, at, nil)
		checkTick(t, c, at, 4, nil)
		checkFeed(t, c, "n", 9, at, nil)
		checkTick(t, c, at, 5, nil)
		checkTick(t, c, at, 5, api.ErrCooling)
	}
}

// Neither a tick that is cooling nor one that leaves the count begins the span anew.
func TestP17OnlyChangesCount(t *testing.T) {
	c := mustBegin(t, "last(n,99)", api.Limits{Max: 9, Step: 1, Up: 4, Down: 6}, 4)
	checkFeed(t, c, "n", 9, 0, nil)
	checkTick(t, c, 0, 5, nil)
	checkTick(t, c, 1, 5, api.ErrCooling)
	checkTick(t, c, 3, 5, api.ErrCooling)
	checkFeed(t, c, "n", 5, 3, nil)
	checkTick(t, c, 3, 5, nil)
	checkFeed(t, c, "n", 9, 4, nil)
	checkTick(t, c, 4, 6, nil)
	// Behind that change both spans begin anew, whichever way it went.
	checkFeed(t, c, "n", 0, 7, nil)
	checkTick(t, c, 7, 6, api.ErrCooling)
	checkTick(t, c, 9, 6, api.ErrCooling)
	checkTick(t, c, 10, 5, nil)
	checkFeed(t, c, "n", 9, 13, nil)
	checkTick(t, c, 13, 5, api.ErrCooling)
	checkTick(t, c, 14, 6, nil)
}

func TestP17UpAndDownApart(t *testing.T) {
	for _, c := range []struct {
		up, down, value int64
		why             error
		count           int64
	}{
		{0, 9, 9, nil, 6}, {9, 0, 9, api.ErrCooling, 5}, {0, 9, 0, api.ErrCooling, 5}, {9, 0, 0, nil, 4}, {9, 9, 5, nil, 5},
	} {
		x := mustBegin(t, "last(n,9)", api.Limits{Max: 9, Step: 1, Up: c.up, Down: c.down}, 4)
		checkFeed(t, x, "n", 9, 0, nil)
		checkTick(t, x, 0, 5, nil)
		checkFeed(t, x, "n", c.value, 1, nil)
		checkTick(t, x, 1, c.count, c.why)
	}
}

// What is wanted, not the value, tells whether it is more or less: at the limit nothing is changed, and nothing cools.
func TestP17WantedAtTheLimit(t *testing.T) {
	c := mustBegin(t, "last(n,9)", api.Limits{Min: 2, Max: 5, Step: 9, Up: 9, Down: 9}, 4)
	checkFeed(t, c, "n", 99, 0, nil)
	checkTick(t, c, 0, 5, nil)
	checkTick(t, c, 0, 5, nil)
	checkTick(t, c, 3, 5, nil)
	checkFeed(t, c, "n", -99, 3, nil)
	checkTick(t, c, 3, 5, api.ErrCooling)
	checkTick(t, c, 9, 2, nil)
	checkTick(t, c, 9, 2, nil)
}

// A probe may feed and tick the controller that calls it: both end, and what they turn counts.
func TestP1CallsWithinTick(t *testing.T) {
	var c *scaler.Controller
	var inner []api.Decision
	deep := 0
	probes := map[string]api.Probe{
		"feed": func(args ...int64) (int64, error) { return 0, c.Feed("n", args[0], args[1]) },
		"tick": func(args ...int64) (int64, error) {
			if deep == 3 {
				return 0, nil
			}
			deep++
			d := c.Tick(args[0])
			inner = append(inner, d)
			return 0, nil
		},
	}
	begin := func(src string, l api.Limits) {
		t.Helper()
		x, err := scaler.New(mustLoad(t, src, probes), l, 0)
		if err != nil {
			t.Fatal(err)
		}
		c, inner, deep = x, nil, 0
	}
	begin("feed(7,5)+last(n,9)", free())
	checkTick(t, c, 5, 7, nil)
	checkTickHold(t, c, 6, 7, 0, api.ErrStale)
	begin("feed(7,9)+last(n,9)", free())
	checkTick(t, c, 5, 7, nil)
	checkTick(t, c, 8, 7, api.ErrStale)
	begin("tick(4)+5", free())
	checkTick(t, c, 5, 5, nil)
	if want := []api.Decision{{Time: 4, Count: 0, Err: api.ErrStale}}; !slices.Equal(inner, want) {
		t.Errorf("P16: a tick within a tick: %+v, want %+v", inner, want)
	}
	// The innermost tick changes the count; for those around it less than nothing has passed since.
	begin("tick(6)+5", api.Limits{Max: 9, Step: 1})
	checkTick(t, c, 5, 3, api.ErrCooling)
	if want := []api.Decision{{Time: 6, Count: 1}, {Time: 6, Count: 2}, {Time: 6, Count: 3}}; !slices.Equal(inner, want) {
		t.Errorf("P16: ticks within a tick: %+v, want %+v", inner, want)
	}
}

func TestP3ErrorsOfTicks(t *testing.T) {
	d := mustBegin(t, "fail()", free(), 4).Tick(0)
	var h *api.HoldError
	if !errors.Is(d.Err, errOwn) || !errors.As(d.Err, &h) || h != d.Err {
		t.Errorf("P3: a probe's error is told as %T %v", d.Err, d.Err)
	}
	again := mustBegin(t, "1/0", free(), 4)
	if a, b := again.Tick(0), again.Tick(0); a.Err == b.Err {
		t.Error("P2: two ticks share an error")
	}
}
