package scaler_test

import (
	"errors"
	"math/rand"
	"slices"
	"strconv"
	"strings"
	"testing"

	"scaler/api"
	"scaler/scaler"
)

// The document's P9, written out once more, beside the text that it is the value of: so that values, reasons, places and the order of asking of any policy are held against the document.

// world is a made-up one: what it tells hangs on what it is asked and on the seed alone; trace: what it was asked.
type world struct {
	seed  int64
	trace []string
}

func (w *world) asked(words ...string) int64 {
	question := strings.Join(words, " ")
	w.trace = append(w.trace, question)
	h := uint64(w.seed)*2654435761 + 17
	for i := range len(question) {
		h = (h ^ uint64(question[i])) * 1099511628211
	}
	return int64(h >> 33)
}

// answer tells a number (mostly a small one, or one near the ends), and whether all is well (0), there is none (1), or it panics (2).
func answer(h int64) (int64, int) {
	switch h % 16 {
	case 0:
		return 9, 1
	case 1:
		return h, 2
	case 2:
		return greatest - h%3, 0
	case 3:
		return least + h%3, 0
	case 4:
		return 0, 0
	}
	return h/16%41 - 20, 0
}

func (w *world) look(kind string, metric string, width int64) (int64, bool) {
	n, how := answer(w.asked(kind, metric, strconv.FormatInt(width, 10)))
	if how == 2 {
		panic(n)
	}
	return n, how == 0
}

func words(name string, args []int64) []string {
	l := []string{name}
	for _, a := range args {
		l = append(l, strconv.FormatInt(a, 10))
	}
	return l
}

func (w *world) probe(name string) api.Probe {
	return func(args ...int64) (int64, error) {
		n, how := answer(w.asked(words(name, args)...))
		clear(args)
		switch how {
		case 1:
			return n, errOwn
		case 2:
			panic(n)
		}
		return n, nil
	}
}

// work works out the value of a part that was drawn; nil: there is a number, else the reason.
type work func(w *world) (int64, *outcome)

// drawing draws a policy by the grammar, from the left to the right: so the place of a token is how much has been drawn.
type drawing struct {
	*rand.Rand
	text strings.Builder
}

func (d *drawing) pick(of ...string) string { return of[d.Intn(len(of))] }

func (d *drawing) put(token string) int {
	d.text.WriteString(d.pick("", "", "", "", " ", "\t\n"))
	at := d.text.Len()
	d.text.WriteString(token)
	return at
}

func (d *drawing) choice(depth int) work {
	test := d.compare(depth)
	if depth == 0 || d.Intn(4) > 0 {
		return test
	}
	d.put("?")
	then := d.choice(depth - 1)
	d.put(":")
	other := d.choice(depth - 1)
	return func(w *world) (int64, *outcome) {
		n, why := test(w)
		if why != nil {
			return 0, why
		}
		if n != 0 {
			return then(w)
		}
		return other(w)
	}
}

// pair draws what stands behind the left part.
func (d *drawing) pair(sign string, left work, part func(int) work, depth int) work {
	at := d.put(sign)
	right := part(depth)
	return func(w *world) (int64, *outcome) {
		x, why := left(w)
		if why != nil {
			return 0, why
		}
		y, why := right(w)
		if why != nil {
			return 0, why
		}
		n, there := reckoned(sign, x, y)
		if !there {
			return 0, &outcome{0, at, api.ErrDivide}
		}
		return n, nil
	}
}

func (d *drawing) compare(depth int) work {
	x := d.sum(depth)
	if depth > 0 && d.Intn(4) == 0 {
		return d.pair(d.pick("<", ">", "="), x, d.sum, depth-1)
	}
	return x
}

func (d *drawing) sum(depth int) work {
	x := d.product(depth)
	for depth > 0 && d.Intn(3) == 0 {
		x = d.pair(d.pick("+", "-"), x, d.product, depth-1)
	}
	return x
}

func (d *drawing) product(depth int) work {
	x := d.minus(depth)
	for depth > 0 && d.Intn(3) == 0 {
		x = d.pair(d.pick("*", "/"), x, d.minus, depth-1)
	}
	return x
}

func (d *drawing) minus(depth int) work {
	switch n := d.Intn(7); {
	case depth > 0 && n == 0:
		d.put("-")
		of := d.minus(depth - 1)
		return func(w *world) (int64, *outcome) {
			x, why := of(w)
			if why != nil {
				return 0, why
			}
			n, _ := reckoned("-", 0, x)
			return n, nil
		}
	case depth > 0 && n == 1:
		d.put("(")
		x := d.choice(depth - 1)
		d.put(")")
		return x
	case depth > 0 && n <= 3:
		return d.probe(depth - 1)
	case n <= 5:
		return d.measure()
	}
	n := d.Intn(12)
	d.put(d.pick("", "0") + strconv.Itoa(n))
	return func(*world) (int64, *outcome) { return int64(n), nil }
}

func (d *drawing) measure() work {
	kind, metric, width := d.pick("sum", "count", "least", "most", "mean", "last"), d.pick("a", "größe", "sum"), strconv.Itoa(d.Intn(1000))
	at := d.put(kind)
	for _, token := range []string{"(", metric, ",", width, ")"} {
		d.put(token)
	}
	return func(w *world) (int64, *outcome) {
		return told(w, at, api.ErrNoData, kind, metric, width)
	}
}

func (d *drawing) probe(depth int) work {
	name := d.pick("f", "größe", "x٣")
	at := d.put(name)
	d.put("(")
	var parts []work
	for i := range d.Intn(4) {
		if i > 0 {
			d.put(",")
		}
		parts = append(parts, d.choice(depth))
	}
	d.put(")")
	return func(w *world) (int64, *outcome) {
		var args []int64
		for _, p := range parts {
			n, why := p(w)
			if why != nil {
				return 0, why
			}
			args = append(args, n)
		}
		return told(w, at, errOwn, words(name, args)...)
	}
}

// told: what a function that is asked tells; none: the reason, if it tells that there is nothing.
func told(w *world, at int, none error, question ...string) (int64, *outcome) {
	n, how := answer(w.asked(question...))
	switch how {
	case 1:
		return 0, &outcome{0, at, none}
	case 2:
		return 0, &outcome{0, at, n}
	}
	return n, nil
}

func TestP9DrawnPolicies(t *testing.T) {
	r := rand.New(rand.NewSource(11))
	reasons := map[any]int{}
	for range 40000 {
		d := &drawing{Rand: r}
		value := d.choice(3)
		src := d.text.String()
		if len(src) > api.MaxText {
			continue
		}
		real := &world{}
		g := mustLoad(t, src, map[string]api.Probe{"f": real.probe("f"), "größe": real.probe("größe"), "x٣": real.probe("x٣")})
		for seed := range int64(4) {
			*real = world{seed: seed}
			ours := &world{seed: seed}
			n, why := value(ours)
			want := outcome{n, 0, nil}
			if why != nil {
				want = *why
			}
			got := outcomeOf(t, g, real.look)
			if got != want {
				t.Fatalf("P9: %q = %v, want %v", src, got, want)
			}
			if !slices.Equal(real.trace, ours.trace) {
				t.Fatalf("P9: %q: asked was %q, want %q", src, real.trace, ours.trace)
			}
			reasons[kindOf(got)]++
		}
	}
	for _, why := range []any{"value", "panic", api.ErrDivide, api.ErrNoData, errOwn} {
		if reasons[why] < 500 {
			t.Errorf("only %d policies came to %v", reasons[why], why)
		}
	}
}

func kindOf(o outcome) any {
	switch o.why.(type) {
	case nil:
		return "value"
	case int64:
		return "panic"
	}
	return o.why
}

// Two texts of the same policy with the same places: what may be told stands where it stood, the rest is written otherwise.
func TestP10DrawnPolicies(t *testing.T) {
	r := rand.New(rand.NewSource(12))
	checked := 0
	for range 5000 {
		d := &drawing{Rand: r}
		d.choice(3)
		src := d.text.String()
		p, err := scaler.Parse(src)
		if errors.Is(err, api.ErrLong) {
			continue
		}
		code := p.Code()
		if len(code) == 0 || !slices.Equal(code, p.Code()) || !slices.Equal(code, mustParse(t, src).Code()) {
			t.Fatalf("P10: %q gives other bytes, or none", src)
		}
		other := strings.NewReplacer(" ", "\t", "\t\n", "  ").Replace(src)
		if !slices.Equal(code, mustParse(t, other).Code()) {
			t.Fatalf("P10: %q and %q give other bytes", src, other)
		}
		checked++
	}
	if checked < 2000 {
		t.Errorf("only %d policies were checked", checked)
	}
}
