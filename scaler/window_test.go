package scaler_test

import (
	"math"
	"math/big"
	"math/rand"
	"slices"
	"strconv"
	"strings"
	"testing"

	"scaler/api"
	"scaler/scaler"
)

const (
	least    = math.MinInt64
	greatest = math.MaxInt64
)

// samplesOf: the times and values that All goes through.
func samplesOf[T int64 | string | float64](w *scaler.Window[T]) (ts []int64, vs []T) {
	for t, v := range w.All() {
		ts, vs = append(ts, t), append(vs, v)
	}
	return ts, vs
}

func checkWindow(t *testing.T, w *scaler.Window[int64], wantTimes, wantValues []int64) {
	t.Helper()
	if ts, vs := samplesOf(w); !slices.Equal(ts, wantTimes) || !slices.Equal(vs, wantValues) {
		t.Errorf("P7, P8: All goes through the times %d and values %d, want %d and %d", ts, vs, wantTimes, wantValues)
	}
	if n := w.Len(); n != len(wantTimes) {
		t.Errorf("P8: Len() = %d, want %d", n, len(wantTimes))
	}
	lo, some := w.Least()
	hi, also := w.Most()
	if len(wantValues) == 0 {
		if lo != 0 || some || hi != 0 || also {
			t.Errorf("P8: of none: Least() = %d, %v, Most() = %d, %v", lo, some, hi, also)
		}
		return
	}
	if lo != slices.Min(wantValues) || !some || hi != slices.Max(wantValues) || !also {
		t.Errorf("P8: of %d: Least() = %d, %v, Most() = %d, %v", wantValues, lo, some, hi, also)
	}
}

func checkPush[T int64 | string | float64](t *testing.T, w *scaler.Window[T], at int64, v T, want bool) {
	t.Helper()
	if ok := w.Push(at, v); ok != want {
		t.Errorf("P7: Push(%d, %v) = %v", at, v, ok)
	}
}

func checkAdvance[T int64 | string | float64](t *testing.T, w *scaler.Window[T], at int64, want bool) {
	t.Helper()
	if ok := w.Advance(at); ok != want {
		t.Errorf("P7: Advance(%d) = %v", at, ok)
	}
}

func TestP7Example(t *testing.T) {
	w := scaler.NewWindow[int64](5)
	checkWindow(t, w, nil, nil)
	checkPush(t, w, 1, 3, true)
	checkPush(t, w, 4, 8, true)
	checkAdvance(t, w, 5, true)
	checkWindow(t, w, []int64{1, 4}, []int64{3, 8})
	checkAdvance(t, w, 6, true)
	checkWindow(t, w, []int64{4}, []int64{8})
	checkAdvance(t, w, 8, true)
	checkWindow(t, w, []int64{4}, []int64{8})
	checkAdvance(t, w, 9, true)
	checkWindow(t, w, nil, nil)
}

func TestP7TimeBefore(t *testing.T) {
	w := scaler.NewWindow[int64](10)
	checkPush(t, w, 5, 1, true)
	for _, past := range []int64{4, 0, -5, least} {
		checkPush(t, w, past, 2, false)
		checkAdvance(t, w, past, false)
		checkWindow(t, w, []int64{5}, []int64{1})
	}
	checkAdvance(t, w, 7, true)
	checkPush(t, w, 6, 3, false)
	checkAdvance(t, w, 6, false)
	checkPush(t, w, 7, 4, true)
	checkWindow(t, w, []int64{5, 7}, []int64{1, 4})
	// A push that is refused must not have moved the time: 14 is still ahead of 15.
	checkAdvance(t, w, 14, true)
	checkPush(t, w, 13, 5, false)
	checkWindow(t, w, []int64{5, 7}, []int64{1, 4})
	checkAdvance(t, w, 15, true)
	checkWindow(t, w, []int64{7}, []int64{4})
}

func TestP7SameTimeAgain(t *testing.T) {
	w := scaler.NewWindow[int64](2)
	for _, v := range []int64{5, 3, 9, 3} {
		checkPush(t, w, 7, v, true)
		checkAdvance(t, w, 7, true)
	}
	checkWindow(t, w, []int64{7, 7, 7, 7}, []int64{5, 3, 9, 3})
	checkPush(t, w, 8, 4, true)
	checkWindow(t, w, []int64{7, 7, 7, 7, 8}, []int64{5, 3, 9, 3, 4})
	checkAdvance(t, w, 9, true)
	checkWindow(t, w, []int64{8}, []int64{4})
}

func TestP7PushLetsTimePass(t *testing.T) {
	w := scaler.NewWindow[int64](3)
	checkPush(t, w, 0, 1, true)
	checkPush(t, w, 2, 2, true)
	checkPush(t, w, 3, 3, true)
	checkWindow(t, w, []int64{2, 3}, []int64{2, 3})
	checkPush(t, w, 100, 4, true)
	checkWindow(t, w, []int64{100}, []int64{4})
}

func TestP7FirstTime(t *testing.T) {
	for _, first := range []int64{least, least + 1, -1, 0, 1, greatest} {
		w := scaler.NewWindow[int64](1)
		checkPush(t, w, first, 6, true)
		checkWindow(t, w, []int64{first}, []int64{6})
		w = scaler.NewWindow[int64](1)
		checkAdvance(t, w, first, true)
		checkWindow(t, w, nil, nil)
		checkPush(t, w, first, 6, true)
		checkWindow(t, w, []int64{first}, []int64{6})
	}
}

func TestP7WidthOfNoneAndBelow(t *testing.T) {
	for _, width := range []int64{0, -1, -7, least + 1, least} {
		for _, at := range []int64{least, least + 1, -1, 0, 3, greatest} {
			w := scaler.NewWindow[int64](width)
			checkPush(t, w, at, 5, true)
			checkWindow(t, w, nil, nil)
			checkAdvance(t, w, at, true)
			checkWindow(t, w, nil, nil)
			if at > least {
				checkPush(t, w, at-1, 5, false) // the time went on all the same
				checkAdvance(t, w, least, false)
			}
		}
	}
}

func TestP7EndsOfNumbers(t *testing.T) {
	for _, c := range []struct {
		width, sample, now int64
		in                 bool
	}{
		{1, least, least, true},
		{1, least, least + 1, false},
		{greatest, least, -2, true}, // least + greatest is -1
		{greatest, least, -1, false},
		{greatest, least, greatest, false},
		{greatest, -1, greatest - 2, true},
		{greatest, -1, greatest - 1, false},
		{greatest, 0, greatest - 1, true},
		{greatest, 0, greatest, false}, // their sum is just the greatest number
		{greatest, 1, greatest, true},  // beyond it
		{greatest, greatest, greatest, true},
		{1, greatest, greatest, true},
		{1, greatest - 1, greatest, false},
		{2, greatest - 1, greatest, true},
		{5, greatest - 4, greatest, true},
		{5, greatest - 5, greatest, false},
		{5, least, least + 4, true},
		{5, least, least + 5, false},
		{5, least, greatest, false},
		{1 << 62, -(1 << 62), -1, true},
		{1 << 62, -(1 << 62), 0, false},
	} {
		w := scaler.NewWindow[int64](c.width)
		checkPush(t, w, c.sample, 9, true)
		checkAdvance(t, w, c.now, true)
		if in := w.Len() == 1; in != c.in {
			t.Errorf("P7: width %d, a sample of time %d, at time %d: in the window: %v", c.width, c.sample, c.now, in)
		}
	}
}

func TestP7SixteenAndMore(t *testing.T) {
	w := scaler.NewWindow[int64](100)
	var ts, vs []int64
	for i := range int64(50) {
		checkPush(t, w, i/3, -i, true)
		ts, vs = append(ts, i/3), append(vs, -i)
		from := max(0, len(ts)-api.MaxSamples)
		checkWindow(t, w, ts[from:], vs[from:])
	}
	if api.MaxSamples != 16 || w.Len() != 16 {
		t.Errorf("P7: behind 50 samples there are %d, want 16", w.Len())
	}
}

func TestP7OnceLeft(t *testing.T) {
	// Pushed out by number: it does not come back when those behind it go by time.
	w := scaler.NewWindow[int64](5)
	for i := range int64(17) {
		checkPush(t, w, 0, i, true)
	}
	checkPush(t, w, 4, 17, true)
	if _, vs := samplesOf(w); len(vs) != 16 || vs[0] != 2 || vs[15] != 17 {
		t.Errorf("P7: of 18 samples: %d", vs)
	}
	checkAdvance(t, w, 5, true)
	checkWindow(t, w, []int64{4}, []int64{17})
	// Gone by time: a refused earlier time does not bring it back.
	checkAdvance(t, w, 9, true)
	checkWindow(t, w, nil, nil)
	checkAdvance(t, w, 5, false)
	checkPush(t, w, 4, 18, false)
	checkWindow(t, w, nil, nil)
	checkPush(t, w, 9, 19, true)
	checkWindow(t, w, []int64{9}, []int64{19})
}

func TestP8LeastAndMost(t *testing.T) {
	w := scaler.NewWindow[int64](3)
	for _, c := range []struct{ at, v, lo, hi int64 }{
		{0, 5, 5, 5},
		{1, least, least, 5},
		{2, greatest, least, greatest},
		{3, 0, least, greatest},
		{4, -1, -1, greatest},
		{5, -1, -1, 0},
		{6, -1, -1, -1},
	} {
		checkPush(t, w, c.at, c.v, true)
		lo, some := w.Least()
		hi, also := w.Most()
		if lo != c.lo || hi != c.hi || !some || !also {
			t.Errorf("P8: at time %d: Least() = %d, %v, Most() = %d, %v, want %d and %d", c.at, lo, some, hi, also, c.lo, c.hi)
		}
	}
	checkAdvance(t, w, greatest, true)
	checkWindow(t, w, nil, nil)
}

func TestP8Texts(t *testing.T) {
	w := scaler.NewWindow[string](4)
	if lo, some := w.Least(); lo != "" || some {
		t.Errorf("P8: of none: Least() = %q, %v", lo, some)
	}
	if hi, some := w.Most(); hi != "" || some {
		t.Errorf("P8: of none: Most() = %q, %v", hi, some)
	}
	checkPush(t, w, 1, "b", true)
	checkPush(t, w, 1, "größe", true)
	checkPush(t, w, 0, "z", false)
	checkPush(t, w, 3, "", true)
	checkPush(t, w, 4, "a", true)
	if ts, vs := samplesOf(w); !slices.Equal(ts, []int64{1, 1, 3, 4}) || !slices.Equal(vs, []string{"b", "größe", "", "a"}) {
		t.Errorf("P8: All of texts: %d, %q", ts, vs)
	}
	lo, some := w.Least()
	if hi, also := w.Most(); lo != "" || !some || hi != "größe" || !also {
		t.Errorf("P8: of texts: Least() = %q, %v, Most() = %q, %v", lo, some, hi, also)
	}
	checkAdvance(t, w, 7, true)
	lo, some = w.Least()
	if hi, also := w.Most(); lo != "a" || !some || hi != "a" || !also {
		t.Errorf("P8: of one text: Least() = %q, %v, Most() = %q, %v", lo, some, hi, also)
	}
	checkAdvance(t, w, 8, true)
	if lo, some := w.Least(); lo != "" || some || w.Len() != 0 {
		t.Errorf("P8: of no texts: Least() = %q, %v", lo, some)
	}
}

func TestP8Floats(t *testing.T) {
	// Texts and numbers have one order alone; of floats it is that of package cmp, in which NaN is the least, whenever it came.
	nan, inf := math.NaN(), math.Inf(1)
	for _, list := range [][]float64{{nan, 2, -inf}, {2, nan, -inf}, {-inf, 2, nan}} {
		w := scaler.NewWindow[float64](9)
		for _, v := range list {
			checkPush(t, w, 0, v, true)
		}
		lo, some := w.Least()
		if hi, also := w.Most(); lo == lo || !some || hi != 2 || !also {
			t.Errorf("P8: of %v: Least() = %v, %v, Most() = %v, %v", list, lo, some, hi, also)
		}
	}
}

type degrees int8

func TestP8TypesOfTheCallersOwn(t *testing.T) {
	w := scaler.NewWindow[degrees](2)
	w.Push(0, -128)
	w.Push(1, 127)
	lo, _ := w.Least()
	hi, _ := w.Most()
	sum := scaler.Fold(w, 0, func(have int, v degrees) int { return have + int(v) })
	if lo != -128 || hi != 127 || sum != -1 {
		t.Errorf("P8: of a type of the caller's own: %d, %d, %d", lo, hi, sum)
	}
}

func TestP8AllStopsEarly(t *testing.T) {
	w := scaler.NewWindow[int64](10)
	for i := range int64(4) {
		w.Push(i, 10*i)
	}
	for stop := 1; stop <= 4; stop++ {
		var got []int64
		w.All()(func(at int64, v int64) bool {
			got = append(got, at, v)
			return len(got) < 2*stop
		})
		if !slices.Equal(got, []int64{0, 0, 1, 10, 2, 20, 3, 30}[:2*stop]) {
			t.Errorf("P8: All, stopped behind %d: %d", stop, got)
		}
	}
	checkWindow(t, w, []int64{0, 1, 2, 3}, []int64{0, 10, 20, 30})
}

func TestP8AllAgain(t *testing.T) {
	w := scaler.NewWindow[int64](10)
	w.Push(1, 5)
	w.Push(2, 6)
	seq := w.All()
	for range seq {
		break // one that stopped early begins anew
	}
	for range 3 {
		var got []int64
		for at, v := range seq {
			got = append(got, at, v)
			for range seq { // and one within another
			}
		}
		if !slices.Equal(got, []int64{1, 5, 2, 6}) {
			t.Errorf("P8: All, gone through again: %d", got)
		}
	}
	for range scaler.NewWindow[string](0).All() {
		t.Error("P8: All of an empty window gives something")
	}
}

func TestP1P8CallsWithinAll(t *testing.T) {
	w := scaler.NewWindow[int64](3)
	for i := range int64(3) {
		w.Push(i, i)
	}
	var got []int64
	for at, v := range w.All() {
		got = append(got, at, v)
		checkPush(t, w, 3+at, 100, true)
	}
	if !slices.Equal(got, []int64{0, 0, 1, 1, 2, 2}) {
		t.Errorf("P8: All with pushes on the way: %d", got)
	}
	checkWindow(t, w, []int64{3, 4, 5}, []int64{100, 100, 100})
	n := scaler.Fold(w, 0, func(have int, v int64) int {
		w.Push(50, 7)
		return have + int(v)
	})
	if n != 300 || w.Len() != 3 {
		t.Errorf("P8: Fold with pushes on the way: %d, and %d samples are there", n, w.Len())
	}
}

func TestP8Fold(t *testing.T) {
	w := scaler.NewWindow[int64](10)
	spell := func(have string, v int64) string { return "(" + have + " " + strconv.FormatInt(v, 10) + ")" }
	if s := scaler.Fold(w, "start", spell); s != "start" {
		t.Errorf("P8: Fold of none = %q", s)
	}
	for _, v := range []int64{3, 1, 2} {
		w.Push(5, v)
	}
	if s := scaler.Fold(w, "start", spell); s != "(((start 3) 1) 2)" {
		t.Errorf("P8: Fold = %q", s)
	}
	if n := scaler.Fold(w, 100, func(have int64, v int64) int64 { return 2*have - v }); n != 2*(2*(2*100-3)-1)-2 {
		t.Errorf("P8: Fold to the same type = %d", n)
	}
	list := scaler.Fold(w, []int64(nil), func(have []int64, v int64) []int64 { return append(have, v) })
	if !slices.Equal(list, []int64{3, 1, 2}) {
		t.Errorf("P8: Fold to a list = %d", list)
	}
	texts := scaler.NewWindow[string](1)
	texts.Push(0, "ab")
	texts.Push(0, "")
	texts.Push(0, "größe")
	if n := scaler.Fold(texts, 1.5, func(have float64, v string) float64 { return have + float64(len(v)) }); n != 10.5 {
		t.Errorf("P8: Fold of texts to a number = %v", n)
	}
	texts.Advance(1)
	if n := scaler.Fold(texts, 1.5, func(have float64, v string) float64 { return 0 }); n != 1.5 {
		t.Errorf("P8: Fold of texts that have left = %v", n)
	}
}

func TestP1FoldWithoutStep(t *testing.T) {
	w := scaler.NewWindow[int64](10)
	w.Push(0, 3)
	if n := scaler.Fold(w, 7, nil); n != 7 {
		t.Errorf("P1: Fold without a step = %d", n)
	}
	if n := scaler.Fold(nil, 7, func(have int, v int64) int { return 0 }); n != 7 {
		t.Errorf("P1: Fold without a window = %d", n)
	}
}

func TestP1StepMayPanicThrough(t *testing.T) {
	w := scaler.NewWindow[int64](10)
	w.Push(0, 3)
	w.Push(1, 4)
	func() {
		defer func() {
			if v := recover(); v != "no" {
				t.Errorf("P1: the step panicked with no, and through comes %v", v)
			}
		}()
		scaler.Fold(w, 0, func(have int, v int64) int { panic("no") })
	}()
	checkWindow(t, w, []int64{0, 1}, []int64{3, 4})
	checkPush(t, w, 10, 5, true)
	checkWindow(t, w, []int64{1, 10}, []int64{4, 5})
}

func TestP2WindowsApart(t *testing.T) {
	a, b := scaler.NewWindow[int64](5), scaler.NewWindow[int64](5)
	for i := range int64(20) {
		a.Push(i, i)
		b.Push(20-i, -i)
	}
	checkWindow(t, a, []int64{15, 16, 17, 18, 19}, []int64{15, 16, 17, 18, 19})
	checkWindow(t, b, []int64{20}, []int64{0})
}

// model keeps all samples that ever came, and reckons with numbers that have no ends.
type model struct {
	width, time int64
	all         []pushed
}

type pushed struct {
	time, value int64
	left        bool
}

func (m *model) advance(t int64) bool {
	if t < m.time {
		return false
	}
	m.time = t
	newer := 0
	for i := len(m.all) - 1; i >= 0; i-- {
		s := &m.all[i]
		end := new(big.Int).Add(big.NewInt(s.time), big.NewInt(m.width))
		s.left = s.left || newer == 16 || end.Cmp(big.NewInt(m.time)) <= 0
		if !s.left {
			newer++
		}
	}
	return true
}

func (m *model) push(t, v int64) bool {
	if t < m.time {
		return false
	}
	m.all = append(m.all, pushed{t, v, false})
	return m.advance(t)
}

func (m *model) samples() (ts, vs []int64) {
	for _, s := range m.all {
		if !s.left {
			ts, vs = append(ts, s.time), append(vs, s.value)
		}
	}
	return ts, vs
}

// nextTime: mostly a little on from there, at times before it, or a leap to some end.
func nextTime(r *rand.Rand, now int64) int64 {
	switch r.Intn(12) {
	case 0:
		return now - 1 - r.Int63n(3)
	case 1:
		if r.Intn(6) == 0 {
			return int64(r.Uint64())
		}
		return []int64{least, least + 1, -3, 0, 2}[r.Intn(5)]
	case 2:
		if r.Intn(6) == 0 {
			return greatest - r.Int63n(20)
		}
	}
	return now + r.Int63n(4)
}

func TestP7P8MadeRuns(t *testing.T) {
	r := rand.New(rand.NewSource(11))
	widths := []int64{1, 2, 3, 5, 8, 20, 0, -1, least, greatest, greatest - 1, 1 << 62}
	full := 0
	for range 3000 {
		m := &model{width: widths[r.Intn(len(widths))], time: least}
		numbers, texts := scaler.NewWindow[int64](m.width), scaler.NewWindow[string](m.width)
		for range 60 {
			at, v := nextTime(r, m.time), r.Int63n(9)-4
			text := strings.Repeat("ä", int(v+4))
			if r.Intn(4) == 0 {
				want := m.advance(at)
				checkAdvance(t, numbers, at, want)
				checkAdvance(t, texts, at, want)
			} else {
				want := m.push(at, v)
				checkPush(t, numbers, at, v, want)
				checkPush(t, texts, at, text, want)
			}
			ts, vs := m.samples()
			checkWindow(t, numbers, ts, vs)
			textTimes, list := samplesOf(texts)
			lengths := scaler.Fold(texts, nil, func(have []int64, s string) []int64 { return append(have, int64(len(s)/2)-4) })
			if !slices.Equal(textTimes, ts) || !slices.Equal(lengths, vs) || len(list) != len(vs) || texts.Len() != len(vs) {
				t.Errorf("P7, P8: a window of texts has %d: %q, want %d: %d", textTimes, list, ts, vs)
			}
			if len(ts) == 16 {
				full++
			}
			if t.Failed() {
				t.Fatalf("width %d, all samples: %v", m.width, m.all)
			}
		}
	}
	if full < 1000 {
		t.Errorf("only %d windows were full", full)
	}
}
