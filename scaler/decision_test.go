package scaler_test

import (
	"math/big"
	"math/rand"
	"strconv"
	"strings"
	"testing"

	"scaler/api"
	"scaler/scaler"
)

// P14 to P17, written out once more: so that any run of samples and ticks is held against the document.

// decider keeps all samples that ever came, goes through them from the beginning on for each measure, and reckons times without ends.
type decider struct {
	program *scaler.Program
	limits  api.Limits
	samples map[string][]pushed
	time    int64
	count   int64
	change  *big.Int
}

func newDecider(g *scaler.Program, l api.Limits, count int64) *decider {
	d := &decider{program: g, limits: l, samples: map[string][]pushed{}, time: least, count: count}
	for name := range g.Names() {
		d.samples[name] = nil
	}
	return d
}

func (d *decider) feed(name string, value, t int64) error {
	if t < d.time {
		return api.ErrStale
	}
	if _, there := d.samples[name]; !there {
		return api.ErrMetric
	}
	d.time = t
	d.samples[name] = append(d.samples[name], pushed{time: t, value: value})
	return nil
}

func (d *decider) tick(t int64) api.Decision {
	if t < d.time {
		return api.Decision{Time: t, Count: d.count, Err: api.ErrStale}
	}
	d.time = t
	n, err := d.program.Eval(d.look)
	if err == nil {
		err = d.decide(max(d.limits.Min, min(d.limits.Max, n)))
	}
	return api.Decision{Time: t, Count: d.count, Err: err}
}

func (d *decider) decide(wanted int64) error {
	pause := d.limits.Up
	if wanted == d.count {
		return nil
	}
	if wanted < d.count {
		pause = d.limits.Down
	}
	now := big.NewInt(d.time)
	if d.change != nil && new(big.Int).Sub(now, d.change).Cmp(big.NewInt(pause)) < 0 {
		return api.ErrCooling
	}
	d.change = now
	way := new(big.Int).Sub(big.NewInt(wanted), big.NewInt(d.count))
	if step := big.NewInt(d.limits.Step); way.CmpAbs(step) > 0 {
		way.Mul(step, big.NewInt(int64(way.Sign())))
	}
	d.count += way.Int64()
	return nil
}

func (d *decider) look(kind string, metric string, width int64) (int64, bool) {
	m := &model{width: width, time: least}
	for _, s := range d.samples[metric] {
		m.push(s.time, s.value)
	}
	m.advance(d.time)
	_, values := m.samples()
	sum, lo, hi, last := big.NewInt(0), int64(greatest), int64(least), int64(0)
	for _, v := range values {
		sum = big.NewInt(clamped(sum.Add(sum, big.NewInt(v))))
		lo, hi, last = min(lo, v), max(hi, v), v
	}
	some := len(values) > 0
	switch kind {
	case "sum":
		return sum.Int64(), true
	case "count":
		return int64(len(values)), true
	case "least":
		return lo, some
	case "most":
		return hi, some
	case "last":
		return last, some
	}
	return reckoned("/", sum.Int64(), int64(len(values)))
}

// checkDecision compares what errors say, for each Eval makes its own.
func checkDecision(t *testing.T, got, want api.Decision) {
	t.Helper()
	if got.Time != want.Time || got.Count != want.Count || toldOf(got.Err) != toldOf(want.Err) {
		t.Errorf("P16, P17: %+v, want %+v", got, want)
	}
}

func toldOf(err error) outcome {
	h, ok := err.(*api.HoldError)
	if !ok {
		return outcome{why: err}
	}
	if p, ok := h.Err.(*api.PanicError); ok {
		return outcome{at: h.At, why: p.Value}
	}
	return outcome{at: h.At, why: h.Err}
}

// measures draws a policy of a few measures, most of them over spans that are as long as a run of samples.
func measures(r *rand.Rand) string {
	pick := func(of ...string) string { return of[r.Intn(len(of))] }
	one := func() string {
		width := strconv.Itoa(r.Intn(14))
		if r.Intn(9) == 0 {
			width = "999999999"
		}
		return pick("sum", "count", "least", "most", "mean", "last") + "(" + pick("a", "a", "größe", "sum") + "," + width + ")"
	}
	switch r.Intn(8) {
	case 0:
		return one() + pick("<", ">", "=") + one() + "?" + one() + ":" + one()
	case 1:
		return "f(" + one() + "," + one() + ")"
	case 2:
		return "count(a,5)?" + one() + ":" + strconv.Itoa(r.Intn(9))
	case 3:
		d := &drawing{Rand: r}
		d.choice(2)
		return d.text.String()
	}
	list := []string{one()}
	for range r.Intn(4) {
		list = append(list, one())
	}
	return strings.Join(list, pick("+", "-", "*", "/"))
}

// steady: probes that tell the same whenever they are asked the same.
func steady() map[string]api.Probe {
	all := given()
	return map[string]api.Probe{"f": all["add"], "größe": all["fail"], "x٣": all["boom"]}
}

func drawnLimits(r *rand.Rand) (api.Limits, int64) {
	l := api.Limits{Min: r.Int63n(4), Step: 1 + r.Int63n(5), Up: r.Int63n(5), Down: r.Int63n(5)}
	l.Max = l.Min + r.Int63n(20)
	switch r.Intn(6) {
	case 0:
		l.Max, l.Step = greatest, greatest-r.Int63n(3)
	case 1:
		l.Up = greatest - r.Int63n(3)
	case 2:
		l.Down = greatest - r.Int63n(3)
	}
	if l.Max == greatest {
		return l, l.Min + r.Int63n(5)
	}
	return l, l.Min + r.Int63n(l.Max-l.Min+1)
}

func drawnValue(r *rand.Rand) int64 {
	switch r.Intn(8) {
	case 0:
		return greatest - r.Int63n(3)
	case 1:
		return least + r.Int63n(3)
	}
	return r.Int63n(30) - 6
}

func TestP14P15P16P17MadeRuns(t *testing.T) {
	r := rand.New(rand.NewSource(11))
	seen := map[error]int{}
	for range 4000 {
		src := measures(r)
		if len(src) > api.MaxText {
			continue
		}
		g := mustLoad(t, src, steady())
		l, count := drawnLimits(r)
		c, err := scaler.New(g, l, count)
		if err != nil {
			t.Fatalf("P14: New(%+v, %d): %v", l, count, err)
		}
		d := newDecider(g, l, count)
		rare := 2 + r.Intn(6)
		for range 80 {
			at := nextTime(r, d.time)
			if r.Intn(rare) == 0 {
				want := d.tick(at)
				checkDecision(t, c.Tick(at), want)
				seen[kindOfTick(want.Err)]++
			} else {
				name, value := []string{"a", "a", "a", "größe", "sum", "b"}[r.Intn(6)], drawnValue(r)
				want := d.feed(name, value, at)
				checkFeed(t, c, name, value, at, want)
				if want != nil {
					seen[want]++
				}
			}
			if t.Failed() {
				t.Fatalf("%q, %+v, count %d, at %d: all samples: %v", src, l, count, d.time, d.samples)
			}
		}
	}
	for _, why := range []error{nil, api.ErrStale, api.ErrMetric, api.ErrCooling, api.ErrNoData, api.ErrDivide} {
		if seen[why] < 300 {
			t.Errorf("only %d samples and ticks came to %v", seen[why], why)
		}
	}
}

// kindOfTick: the reason itself, without the place.
func kindOfTick(err error) error {
	if h, ok := err.(*api.HoldError); ok {
		return h.Err
	}
	return err
}

// checkControllerOf: a controller of any program decides as the document says.
func checkControllerOf(t *testing.T, g *scaler.Program) {
	t.Helper()
	c, err := scaler.New(g, free(), 5)
	if err != nil {
		t.Fatalf("P14: New = %v", err)
	}
	d := newDecider(g, free(), 5)
	for at := range int64(3) {
		for name := range g.Names() {
			checkFeed(t, c, name, 7*at, at, d.feed(name, 7*at, at))
		}
		checkDecision(t, c.Tick(at), d.tick(at))
	}
}
