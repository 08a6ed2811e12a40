package scaler_test

import (
	"bytes"
	"errors"
	"math/big"
	"math/rand"
	"slices"
	"strings"
	"sync"
	"testing"

	"scaler/api"
	"scaler/scaler"
)

var errOwn = errors.New("the probe's own")

// given: the probes that most tests hand in.
func given() map[string]api.Probe {
	return map[string]api.Probe{
		"add": func(args ...int64) (int64, error) {
			n := int64(0)
			for _, a := range args {
				n += a
			}
			return n, nil
		},
		"len":  func(args ...int64) (int64, error) { return int64(len(args)), nil },
		"fail": func(args ...int64) (int64, error) { return 5, errOwn },
		"boom": func(args ...int64) (int64, error) { panic(int64(len(args))) },
		"größe": func(args ...int64) (int64, error) {
			return -4, nil
		},
	}
}

// measured: by the metric: none: nothing to measure (beside a number); bad: a panic; else a number that hangs on all three.
func measured(kind string, metric string, width int64) (int64, bool) {
	switch metric {
	case "none":
		return 9, false
	case "bad":
		panic(kind)
	}
	return int64(len(kind))*10000 + int64(len(metric))*1000 + width, true
}

func mustLoad(t *testing.T, src string, probes map[string]api.Probe) *scaler.Program {
	t.Helper()
	g, err := scaler.Load(mustParse(t, src).Code(), probes)
	if err != nil || g == nil {
		t.Fatalf("P11: Load of %q = %v, %v, want a program", src, g, err)
	}
	return g
}

func checkValue(t *testing.T, src string, look api.Look, want int64) {
	t.Helper()
	g := mustLoad(t, src, given())
	for range 2 {
		if n, err := g.Eval(look); n != want || err != nil {
			t.Errorf("P9: %q = %d, %v, want %d", src, n, err, want)
		}
	}
}

// checkHold asks for the type itself, and for the reason itself within it.
func checkHold(t *testing.T, src string, look api.Look, at int, why error) {
	t.Helper()
	g := mustLoad(t, src, given())
	for range 2 {
		n, err := g.Eval(look)
		h, ok := err.(*api.HoldError)
		if n != 0 || !ok || h.At != at || h.Err != why || !errors.Is(err, why) {
			t.Errorf("P9: %q = %d, %T %v, want a HoldError of %v at %d", src, n, err, err, why, at)
		}
	}
}

func checkPanic(t *testing.T, src string, look api.Look, at int, value any) {
	t.Helper()
	g := mustLoad(t, src, given())
	for range 2 {
		n, err := g.Eval(look)
		h, ok := err.(*api.HoldError)
		if n != 0 || !ok || h.At != at {
			t.Errorf("P13: %q = %d, %T %v, want a HoldError at %d", src, n, err, err, at)
			continue
		}
		if p, ok := h.Err.(*api.PanicError); !ok || p.Value != value {
			t.Errorf("P13: %q: the reason is %T %v, want a PanicError with %v", src, h.Err, h.Err, value)
		}
	}
}

func TestP9Values(t *testing.T) {
	for _, c := range []struct {
		src  string
		want int64
	}{
		{"0", 0}, {"007", 7}, {"999999999", 999999999}, {"-7", -7}, {"--7", 7}, {"---7", -7}, {"-0", 0},
		{"1+2", 3}, {"1-2", -1}, {"3*4", 12}, {"3*-4", -12}, {"1 + 2*3-4", 3}, {"10-2-3", 5}, {"10-(2-3)", 11}, {"(1+2)*3", 9}, {"-2*3+1", -5},
		{"7/2", 3}, {"-7/2", -4}, {"7/-2", -4}, {"-7/-2", 3}, {"6/2", 3}, {"-6/2", -3}, {"6/-2", -3}, {"-6/-2", 3}, {"0/5", 0}, {"0/-5", 0}, {"1/2", 0}, {"-1/2", -1}, {"1/-2", -1}, {"-1/-2", 0}, {"-1/999999999", -1}, {"100/7/2", 7}, {"100/(7/2)", 33}, {"7*3/2", 10}, {"7/2*3", 9},
		{"1<2", 1}, {"2<1", 0}, {"1<1", 0}, {"1>2", 0}, {"2>1", 1}, {"1>1", 0}, {"1=1", 1}, {"1=2", 0}, {"-1<1", 1}, {"-2>-1", 0}, {"1+1=2", 1}, {"(1<2)+(2>1)+(3=3)", 3},
		{"1?2:3", 2}, {"0?2:3", 3}, {"-1?2:3", 2}, {"5?2:3", 2}, {"0?1/0:5", 5}, {"1?5:1/0", 5}, {"0?fail():5", 5}, {"1?5:boom()", 5}, {"0?last(bad,1):5", 5}, {"1?5:last(none,1)", 5}, {"1<2?3:4?5:6", 3}, {"2<1?3:0?5:6", 6}, {"(0?1:2)?3:4", 3}, {"1?0?1:2:3", 2}, {"(1?2:3)+4", 6},
		{"sum(a,5)", 31005}, {"count(a,0)", 51000}, {"least(ab,1)", 52001}, {"most(a,999999999)", 1000040999}, {"mean(größe,010)", 47010}, {"last(sum,1)", 43001}, {"sum(a,5)-sum(a,4)", 1},
		{"add()", 0}, {"add(1)", 1}, {"add(1,2,3)", 6}, {"add(-1,1<2,3?4:5,add(6,7))", 17}, {"len()", 0}, {"len(9,9)", 2}, {"größe(1)*2", -8}, {"add(sum(a,1),count(a,1))", 82002}, {"-add(3)", -3},
		{"10" + strings.Repeat("+1", 99), 109}, {strings.Repeat("-", 199) + "1", -1}, {strings.Repeat("-", 198) + "12", 12}, {"len(" + strings.Repeat("1,", 97) + "1)", 98}, {strings.Repeat("(", 99) + "12" + strings.Repeat(")", 99), 12},
	} {
		checkValue(t, c.src, measured, c.want)
	}
}

func TestP9LongChains(t *testing.T) {
	nested := strings.Repeat("add(", 39) + "7" + strings.Repeat(")", 39)
	checkValue(t, nested, nil, 7)
	checkValue(t, strings.Repeat("0?1:", 49)+"8", nil, 8)
	checkValue(t, strings.Repeat("1?", 49)+"9"+strings.Repeat(":0", 49), nil, 9)
}

// atEnds: numbers near the ends and near those whose products come there.
func atEnds() []int64 {
	return []int64{least, least + 1, least + 2, least / 2, least/2 - 1, -3037000500, -3037000499, -1000000007, -8, -7, -3, -2, -1, 0, 1, 2, 3, 7, 8, 1000000007, 3037000499, 3037000500, greatest / 2, greatest/2 + 1, greatest/2 + 2, greatest - 2, greatest - 1, greatest}
}

func clamped(n *big.Int) int64 {
	if n.IsInt64() {
		return n.Int64()
	}
	if n.Sign() < 0 {
		return least
	}
	return greatest
}

// reckoned: what a sign makes of two numbers, without ends on the way; false: there is nothing.
func reckoned(sign string, x, y int64) (int64, bool) {
	a, b := big.NewInt(x), big.NewInt(y)
	truth := map[bool]int64{true: 1}
	switch sign {
	case "+":
		return clamped(a.Add(a, b)), true
	case "-":
		return clamped(a.Sub(a, b)), true
	case "*":
		return clamped(a.Mul(a, b)), true
	case "<":
		return truth[x < y], true
	case ">":
		return truth[x > y], true
	case "=":
		return truth[x == y], true
	}
	if y == 0 {
		return 0, false
	}
	q, m := new(big.Int).DivMod(a, b, new(big.Int))
	if m.Sign() != 0 && y < 0 {
		q.Sub(q, big.NewInt(1)) // Euclid's remainder is never below 0: the quotient is rounded up there
	}
	return clamped(q), true
}

func TestP9EndsAtTheEnds(t *testing.T) {
	for _, sign := range []string{"+", "-", "*", "/", "<", ">", "="} {
		g := mustLoad(t, "last(x,1)"+sign+"last(y,1)", nil)
		for _, x := range atEnds() {
			for _, y := range atEnds() {
				n, err := g.Eval(func(kind, metric string, width int64) (int64, bool) {
					if metric == "x" {
						return x, true
					}
					return y, true
				})
				want, ok := reckoned(sign, x, y)
				if n != want || (err == nil) != ok {
					t.Errorf("P9: %d %s %d = %d, %v, want %d", x, sign, y, n, err, want)
				}
			}
		}
	}
	g := mustLoad(t, "-last(x,1)", nil)
	for _, x := range atEnds() {
		n, err := g.Eval(func(string, string, int64) (int64, bool) { return x, true })
		if want := clamped(new(big.Int).Neg(big.NewInt(x))); n != want || err != nil {
			t.Errorf("P9: the negative of %d = %d, %v, want %d", x, n, err, want)
		}
	}
}

func TestP9EndsWithinPolicies(t *testing.T) {
	const top = "999999999*999999999*999999999"
	for _, c := range []struct {
		src  string
		want int64
	}{
		{top, greatest}, {"-" + top, least}, {"-(-" + top + ")", greatest}, {"-" + top + "/-1", greatest}, {top + "+1", greatest}, {"-" + top + "-1", least}, {top + "-1", greatest - 1}, {"1-(-" + top + ")", greatest}, {"-1-(-" + top + ")", greatest}, {"-2-(-" + top + ")", greatest - 1}, {top + "+1-1", greatest - 1}, {top + "*0", 0}, {top + "*-1", -greatest}, {"-" + top + "*-1", greatest}, {top + "/-1", -greatest}, {"-" + top + "/2", least / 2},
	} {
		checkValue(t, c.src, nil, c.want)
	}
}

func TestP9HoldsAndPlaces(t *testing.T) {
	for _, c := range []struct {
		src string
		at  int
		why error
	}{
		{"7/0", 1, api.ErrDivide}, {"0/0", 1, api.ErrDivide}, {" 7 \n/ 0", 4, api.ErrDivide}, {"1+5/(3-3)", 3, api.ErrDivide}, {"1/0+2/0", 1, api.ErrDivide}, {"1/(2/0)", 4, api.ErrDivide}, {"4/2/0", 3, api.ErrDivide}, {"4/0/2", 1, api.ErrDivide}, {"-(7/0)", 3, api.ErrDivide}, {"7/-0", 1, api.ErrDivide}, {"7/0?1:2", 1, api.ErrDivide}, {"1?2/0:3", 3, api.ErrDivide}, {"0?2:3/0", 5, api.ErrDivide}, {"1<2/0", 3, api.ErrDivide}, {"add(1,2/0)", 7, api.ErrDivide}, {"größe()/0", 9, api.ErrDivide},
		{"sum(none,1)", 0, api.ErrNoData}, {"1 + mean(none,5)", 4, api.ErrNoData}, {"größe()*last(none,1)", 10, api.ErrNoData}, {"sum(a,1)+most(none,1)", 9, api.ErrNoData}, {"2*last(none,1)/0", 2, api.ErrNoData}, {"1/0*last(none,1)", 1, api.ErrDivide}, {"-sum(none,1)", 1, api.ErrNoData}, {"sum(none,1)?1:2", 0, api.ErrNoData}, {"last(none,1)-fail()", 0, api.ErrNoData},
		{"fail()", 0, errOwn}, {"1+fail(1,2)", 2, errOwn}, {"add(1,fail(2),boom())", 6, errOwn}, {"fail(1/0)", 6, api.ErrDivide}, {"fail(fail())", 5, errOwn}, {"1?fail():boom()", 2, errOwn}, {"\tfail\n()", 1, errOwn}, {"fail()/0", 0, errOwn}, {"fail()=last(none,1)", 0, errOwn},
		{strings.Repeat(" ", 194) + "fail()", 194, errOwn}, {strings.Repeat(" ", 188) + "sum(none,0)", 188, api.ErrNoData}, {strings.Repeat("(", 98) + "1" + strings.Repeat(")", 98) + "/00", 197, api.ErrDivide},
	} {
		checkHold(t, c.src, measured, c.at, c.why)
	}
}

// traced: a program whose functions note what they are asked; a probe tells how many arguments it has, a measure its width.
func traced(t *testing.T, src string, trace *[]string) (*scaler.Program, api.Look) {
	t.Helper()
	probes := map[string]api.Probe{}
	for _, name := range []string{"a", "b", "c", "d", "e"} {
		probes[name] = func(args ...int64) (int64, error) {
			*trace = append(*trace, name)
			return int64(len(args)), nil
		}
	}
	return mustLoad(t, src, probes), func(kind, metric string, width int64) (int64, bool) {
		*trace = append(*trace, kind+"-"+metric)
		return width, width > 0
	}
}

func TestP9OrderOfAsking(t *testing.T) {
	for _, c := range []struct {
		src, want string
	}{
		{"a()+b()", "a b"}, {"a()-b()*c()", "a b c"}, {"(a()+b())*c()", "a b c"}, {"a()<b()", "a b"}, {"a()=b()/(c()+1)", "a b c"},
		{"a(b(),c(d()),e())", "b d c e a"}, {"a(b(),sum(m,1))*c()?d():e()+sum(m,1)", "b sum-m a c e sum-m"},
		{"a(1)?b():c()", "a b"}, {"a()?b():c()", "a c"}, {"a()?b():c()?d():e()", "a c e"}, {"(a()?b():c(1))?d():e()", "a c d"},
		{"sum(m,1)+sum(m,1)+sum(m,2)", "sum-m sum-m sum-m"}, {"a()+a()", "a a"}, {"0*a()*sum(m,1)", "a sum-m"}, {"0?a():1", ""},
		{"a()/b()+c()", "a b"}, {"sum(m,0)+a()", "sum-m"}, {"a(b(),sum(m,0),c())", "b sum-m"}, {"-a()", "a"}, {"last(m,1)>most(n,2)", "last-m most-n"},
	} {
		var trace []string
		g, look := traced(t, c.src, &trace)
		listOf(g.Names())
		if trace != nil {
			t.Errorf("P9: %q: ahead of Eval was asked %q", c.src, trace)
		}
		for range 2 {
			trace = nil
			g.Eval(look)
			if got := strings.Join(trace, " "); got != c.want {
				t.Errorf("P9: %q: asked was %q, want %q", c.src, got, c.want)
			}
		}
	}
}

func TestP9LookIsAskedForWhatStandsThere(t *testing.T) {
	type question struct {
		kind, metric string
		width        int64
	}
	var got []question
	g := mustLoad(t, "sum(a,1)+count(größe,0)+least(least,010)+most(x1,999999999)+mean(мера,5)+last(A,00)", nil)
	g.Eval(func(kind, metric string, width int64) (int64, bool) {
		got = append(got, question{kind, metric, width})
		return 0, true
	})
	want := []question{{"sum", "a", 1}, {"count", "größe", 0}, {"least", "least", 10}, {"most", "x1", 999999999}, {"mean", "мера", 5}, {"last", "A", 0}}
	if !slices.Equal(got, want) {
		t.Errorf("P9: look was asked %v, want %v", got, want)
	}
}

func TestP9ArgumentsAreTheProbes(t *testing.T) {
	var kept [][]int64
	g := mustLoad(t, "keep(1,2,keep(3,4))+keep(1,2)+keep()", map[string]api.Probe{"keep": func(args ...int64) (int64, error) {
		kept = append(kept, slices.Clone(args))
		for i := range args {
			args[i] = -77
		}
		_ = append(args, -78)
		return 5, nil
	}})
	want := [][]int64{{3, 4}, {1, 2, 5}, {1, 2}, {}}
	for range 2 {
		kept = nil
		if n, err := g.Eval(nil); n != 15 || err != nil {
			t.Errorf("P9: the value is %d, %v, want 15", n, err)
		}
		if !slices.EqualFunc(kept, want, slices.Equal[[]int64]) {
			t.Errorf("P9: the arguments were %v, want %v", kept, want)
		}
	}
}

func TestP9ArgumentsMayBeKept(t *testing.T) {
	var kept [][]int64
	g := mustLoad(t, "keep(1,keep(2))+keep(3,4)", map[string]api.Probe{"keep": func(args ...int64) (int64, error) {
		kept = append(kept, args)
		return int64(len(kept)), nil
	}})
	g.Eval(nil)
	g.Eval(nil)
	want := [][]int64{{2}, {1, 1}, {3, 4}, {2}, {1, 4}, {3, 4}}
	if !slices.EqualFunc(kept, want, slices.Equal[[]int64]) {
		t.Errorf("P9: lists that the probe kept are %v, want %v", kept, want)
	}
}

func TestP9ProbesErrorIsTheReason(t *testing.T) {
	inner := &api.HoldError{Place: api.Place{At: 7}, Err: api.ErrDivide}
	for _, own := range []error{errOwn, inner, api.ErrNoData, &api.NameError{Name: "x"}, &api.PanicError{Value: 1}} {
		g := mustLoad(t, "1+f(2)", map[string]api.Probe{"f": func(...int64) (int64, error) { return 9, own }})
		n, err := g.Eval(nil)
		h, ok := err.(*api.HoldError)
		if n != 0 || !ok || h.At != 2 || h.Err != own || !errors.Is(err, own) {
			t.Errorf("P9: a probe's error %v: %d, %v", own, n, err)
		}
	}
}

func TestP10Same(t *testing.T) {
	for _, same := range [][]string{
		{"1+2*3", "1+2*3", " 1 + 2 * 3 ", "(1+(2*3))", "01+0002*3"},
		{"7/2", "7/02", "7/(2)", "7/ 2\n"},
		{" 7/2", "07/2", "7 /2", "\t7/2"},
		{"sum(a,5)+1", "sum (a , 005)+1", "sum(a,5) +(1)"},
		{"(sum(a,5)+f(1))", " sum(a,5)+f( 01)"},
		{"1?2:3", "(1)?(2):(3)", "(1?2:3)", "01?02:03"},
		{"--7", "-(-7)"},
	} {
		first := mustParse(t, same[0])
		for _, src := range same {
			p := mustParse(t, src)
			if p.String() != first.String() {
				t.Fatalf("%q and %q are not the same policy", same[0], src)
			}
			if !bytes.Equal(p.Code(), first.Code()) {
				t.Errorf("P10: %q and %q give other bytes", same[0], src)
			}
			if len(p.Code()) == 0 {
				t.Errorf("P10: %q gives no byte", src)
			}
		}
	}
}

func TestP10Others(t *testing.T) {
	seen := map[string]string{}
	for _, src := range []string{
		"0", "1", "-1", "--1", "1+2", "1-2", "1*2", "1/2", " 1/2", "1<2", "1>2", "1=2", "2+1", "1?2:3", "1?3:2", "(1?2:3)+4", "1?2:3+4",
		"sum(a,1)", "sum(b,1)", "sum(a,2)", "count(a,1)", " sum(a,1)", "f()", "g()", "f(1)", "f(1,2)", " f()", "f(g())", "f()+g()", "1-2-3", "1-(2-3)", "256", "65536", "16777216", "999999999",
	} {
		code := string(mustParse(t, src).Code())
		if other, there := seen[code]; there {
			t.Errorf("P10: %q and %q give the same bytes", src, other)
		}
		seen[code] = src
	}
}

func TestP10FreshBytes(t *testing.T) {
	p := mustParse(t, "f(1)+sum(a,5)/7")
	want := slices.Clone(p.Code())
	clear(p.Code())
	spoilt := p.Code()
	_ = append(spoilt[:1], spoilt...)
	if !bytes.Equal(p.Code(), want) || p.String() != "(f(1)+(sum(a,5)/7))" {
		t.Error("P2: the bytes that came out belong to the policy still")
	}
}

// checkNameError asks for the type itself, and for nothing beside it.
func checkNameError(t *testing.T, src string, probes map[string]api.Probe, at int, name string) {
	t.Helper()
	g, err := scaler.Load(mustParse(t, src).Code(), probes)
	e, ok := err.(*api.NameError)
	if g != nil || !ok || e.At != at || e.Name != name {
		t.Errorf("P11: Load of %q = %v, %T %v, want a NameError of %s at %d", src, g, err, err, name, at)
	}
}

func TestP11FirstMissingProbe(t *testing.T) {
	for _, c := range []struct {
		src  string
		at   int
		name string
	}{
		{"what()", 0, "what"}, {" \n what()", 3, "what"}, {"add(1)+what(2)+other()", 7, "what"}, {"other(what())", 0, "other"}, {"add(what(),other())", 4, "what"}, {"add(other(what()),what())", 4, "other"},
		{"0?nothing():1", 2, "nothing"}, {"1?2:what()", 4, "what"}, {"what()?other():nothing()", 0, "what"}, {"sum(what,1)+what()", 12, "what"}, {"größe()+länge()", 10, "länge"}, {"Add()", 0, "Add"}, {"add1()", 0, "add1"},
		{"nothing()+what()", 0, "nothing"}, {"what()+nothing()", 0, "what"}, {"-what()", 1, "what"}, {"1/0+what()", 4, "what"}, {"zz()+aa()", 0, "zz"}, {"what()+what()", 0, "what"},
		{strings.Repeat(" ", 197) + "f()", 197, "f"},
	} {
		probes := given()
		probes["nothing"] = nil
		checkNameError(t, c.src, probes, c.at, c.name)
	}
	checkNameError(t, "add(1)", nil, 0, "add")
	checkNameError(t, "add(1)", map[string]api.Probe{}, 0, "add")
	mustLoad(t, "1+sum(a,1)", nil)
	mustLoad(t, "1+sum(add,1)", map[string]api.Probe{})
}

func TestP11OtherProbesDoNotMatter(t *testing.T) {
	probes := map[string]api.Probe{"nothing": nil, "sum": nil, "": nil, "a b": func(...int64) (int64, error) { return 1, nil }}
	if n, err := mustLoad(t, "1+sum(a,5)", probes).Eval(measured); n != 31006 || err != nil {
		t.Errorf("P11: the value is %d, %v", n, err)
	}
}

func TestP2NothingIsKept(t *testing.T) {
	code, probes := mustParse(t, "add(len(1,2),sum(größe,3))").Code(), given()
	before := slices.Clone(code)
	g, err := scaler.Load(code, probes)
	if err != nil {
		t.Fatal("P11:", err)
	}
	if !bytes.Equal(code, before) || len(probes) != len(given()) {
		t.Error("P2: Load wrote into what it was handed")
	}
	clear(code)
	for name := range probes {
		probes[name] = func(...int64) (int64, error) { return -1, errOwn }
	}
	clear(probes)
	if n, err := g.Eval(measured); n != 37005 || err != nil {
		t.Errorf("P2: behind changes of bytes and map: %d, %v", n, err)
	}
	if l := listOf(g.Names()); !slices.Equal(l, []string{"größe"}) {
		t.Errorf("P2: behind changes of the bytes: Names = %q", l)
	}
}

func TestP2ProgramsAreApart(t *testing.T) {
	code := mustParse(t, "f()").Code()
	telling := func(n int64) map[string]api.Probe {
		return map[string]api.Probe{"f": func(...int64) (int64, error) { return n, nil }}
	}
	a, _ := scaler.Load(code, telling(1))
	b, _ := scaler.Load(code, telling(2))
	x, _ := a.Eval(nil)
	y, _ := b.Eval(nil)
	if x != 1 || y != 2 {
		t.Errorf("P2: two programs of the same code tell %d and %d, want 1 and 2", x, y)
	}
}

func TestP11Names(t *testing.T) {
	for _, src := range []string{"1", "f(g())", "sum(a,1)", "sum(b,1)?last(a,2):most(b,3)", "f(sum(c,1),g(-sum(b,1)))<sum(a,1)", "sum(sum,1)+f()*count(f,1)", "sum(größe,1)+sum(grösse,1)+most(größe,9)"} {
		some := func(...int64) (int64, error) { return 0, nil }
		g := mustLoad(t, src, map[string]api.Probe{"f": some, "g": some})
		want := listOf(mustParse(t, src).Names())
		seq := g.Names()
		for n := 1; n <= len(want); n++ {
			var l []string
			seq(func(s string) bool {
				l = append(l, s)
				return len(l) < n
			})
			if !slices.Equal(l, want[:n]) {
				t.Errorf("P11: %q: stopped behind %d: %q, want %q", src, n, l, want[:n])
			}
		}
		if l, again := listOf(seq), listOf(g.Names()); !slices.Equal(l, want) || !slices.Equal(again, want) {
			t.Errorf("P11: Names of %q = %q, then %q, want %q", src, l, again, want)
		}
	}
}

// outcome is what Eval tells, in a form that can be compared.
type outcome struct {
	n  int64
	at int
	// why: the reason, or the panic's value.
	why any
}

func outcomeOf(t *testing.T, g *scaler.Program, look api.Look) outcome {
	t.Helper()
	n, err := g.Eval(look)
	if err == nil {
		return outcome{n, 0, nil}
	}
	h, ok := err.(*api.HoldError)
	if !ok || n != 0 || h.At < 0 {
		t.Fatalf("P11: Eval = %d, %T %v, want a value or a HoldError", n, err, err)
	}
	if p, ok := h.Err.(*api.PanicError); ok {
		return outcome{0, h.At, p.Value}
	}
	if h.Err != api.ErrDivide && h.Err != api.ErrNoData && h.Err != errOwn {
		t.Fatalf("P11: a HoldError of %v", h.Err)
	}
	return outcome{0, h.At, h.Err}
}

// checkCode asks what holds at any bytes. It tells whether there is a program.
func checkCode(t *testing.T, code []byte) bool {
	t.Helper()
	before, probes := slices.Clone(code), given()
	g, err := scaler.Load(code, probes)
	if !bytes.Equal(code, before) || len(probes) != len(given()) {
		t.Fatalf("P2: Load wrote into what it was handed (%q)", before)
	}
	if err != nil {
		e, named := err.(*api.NameError)
		if g != nil || err != api.ErrCode && !named || named && (probes[e.Name] != nil || e.At < 0) {
			t.Fatalf("P11: Load of %q = %v, %T %v", code, g, err, err)
		}
		return false
	}
	h, _ := scaler.Load(code, given())
	if g == nil || h == nil || !slices.Equal(listOf(g.Names()), listOf(h.Names())) {
		t.Fatalf("P2: Load of %q = %v, then %v", code, g, h)
	}
	clear(code)
	copy(code, "spoilt")
	for _, look := range []api.Look{measured, nil} {
		a, b, c := outcomeOf(t, g, look), outcomeOf(t, g, look), outcomeOf(t, h, look)
		if a != b || a != c {
			t.Fatalf("P11: the program of %q tells %v, then %v; loaded again: %v", before, a, b, c)
		}
	}
	checkControllerOf(t, g)
	return true
}

// samples: policies of every kind of part.
func samples() []string {
	return []string{
		"7", "-7", "add(1,2)<3?sum(a,5)/7:-least(b,9)", "f(größe(),1)", "len(mean(größe,10),boom(1),fail())", "1+2-3*4/5<6", "1>2?3:4=5", "last(none,1)/0", "most(bad,2)-count(a,3)", "0?add():len(1,1,1)", "(1/0)*(2/0)", strings.Repeat("-", 199) + "1",
	}
}

func TestP11TurnedBytes(t *testing.T) {
	programs := 0
	for _, src := range samples() {
		code := mustParse(t, src).Code()
		for i := range code {
			for b := range 256 {
				turned := slices.Clone(code)
				turned[i] = byte(b)
				if checkCode(t, turned) {
					programs++
				}
				checkCode(t, slices.Insert(slices.Clone(code), i, byte(b)))
			}
			checkCode(t, slices.Clone(code[:i]))
			checkCode(t, slices.Clone(code[i:]))
			checkCode(t, slices.Delete(slices.Clone(code), i, i+1))
		}
		checkCode(t, append(slices.Clone(code), code...))
	}
	if programs == 0 {
		t.Error("P11: no turned code was a program: nothing was evaluated")
	}
}

func TestP11AnyBytes(t *testing.T) {
	r := rand.New(rand.NewSource(3))
	var pieces [][]byte
	for _, src := range samples() {
		code := mustParse(t, src).Code()
		pieces = append(pieces, code, code[:1], code[len(code)/2:], code[:len(code)/2])
	}
	for range 50000 {
		var code []byte
		for range r.Intn(8) {
			if r.Intn(3) == 0 {
				code = append(code, byte(r.Intn(256)))
				continue
			}
			code = append(code, pieces[r.Intn(len(pieces))]...)
		}
		checkCode(t, code)
	}
	for a := range 256 {
		checkCode(t, []byte{byte(a)})
		for b := range 256 {
			checkCode(t, []byte{byte(a), byte(b)})
		}
	}
	if g, err := scaler.Load(nil, given()); g != nil || err != api.ErrCode {
		t.Errorf("P11: Load of nil = %v, %v, want ErrCode", g, err)
	}
	if g, err := scaler.Load([]byte{}, nil); g != nil || err != api.ErrCode {
		t.Errorf("P11: Load of no bytes = %v, %v, want ErrCode", g, err)
	}
}

// Code that leads as deep as it is long must not break the stack.
func TestP1LongBytes(t *testing.T) {
	for b := range 256 {
		checkCode(t, bytes.Repeat([]byte{byte(b)}, 1<<16))
	}
	for _, src := range samples() {
		code := mustParse(t, src).Code()
		for n := 1; n <= min(len(code), 12); n++ {
			checkCode(t, bytes.Repeat(code[:n], 1<<16))
		}
	}
	checkCode(t, bytes.Repeat(mustParse(t, "--1").Code()[:1], 1<<26))
}

func TestP12LookIsNil(t *testing.T) {
	checkHold(t, "1+count(a,1)", nil, 2, api.ErrNoData)
	checkHold(t, "sum(a,1)/0", nil, 0, api.ErrNoData)
	checkHold(t, "1/0+sum(a,1)", nil, 1, api.ErrDivide)
	checkHold(t, "add(1,last(bad,1))", nil, 6, api.ErrNoData)
	checkValue(t, "0?sum(a,1):add(1,2)", nil, 3)
}

func TestP12EvalWithinEval(t *testing.T) {
	var g *scaler.Program
	depth := 0
	probes := map[string]api.Probe{"down": func(args ...int64) (int64, error) {
		if depth == 5 {
			return 1, nil
		}
		depth++
		n, err := g.Eval(func(string, string, int64) (int64, bool) { return 10, true })
		depth--
		args[0] = n // the list is the probe's, whatever was evaluated in between
		return args[0] + args[1], err
	}}
	g = mustLoad(t, "down(1,2)*2+sum(a,1)", probes)
	// 12 at the bottom; then (n+2)*2+10, five times.
	want := int64(2*1 + 10)
	for range 4 {
		want = (want+2)*2 + 10
	}
	want = (want+2)*2 + 7
	for range 2 {
		n, err := g.Eval(func(string, string, int64) (int64, bool) { return 7, true })
		if n != want || err != nil {
			t.Errorf("P12: a probe that calls Eval: %d, %v, want %d", n, err, want)
		}
	}
}

func TestP12LookCallsEval(t *testing.T) {
	g := mustLoad(t, "sum(a,1)-sum(b,2)*sum(c,3)/len(1)", given())
	inner := 0
	n, err := g.Eval(func(kind, metric string, width int64) (int64, bool) {
		if m, err := g.Eval(func(string, string, int64) (int64, bool) { inner++; return 5, true }); m != -20 || err != nil {
			t.Errorf("P12: the inner value is %d, %v, want -20", m, err)
		}
		if m, err := g.Eval(nil); m != 0 || !errors.Is(err, api.ErrNoData) {
			t.Errorf("P12: the inner value without look is %d, %v", m, err)
		}
		if _, err := g.Eval(func(string, string, int64) (int64, bool) { panic("inner") }); err == nil {
			t.Error("P13: an inner panic was not told")
		}
		return width * 100, true
	})
	if n != 100-200*300 || err != nil || inner != 9 {
		t.Errorf("P12: look calls Eval: %d, %v (%d inner measurements), want -59900", n, err, inner)
	}
}

func TestP12NothingIsKeptFromOneEvalToAnother(t *testing.T) {
	g := mustLoad(t, "last(a,1)?100/last(b,1):fail()", given())
	telling := func(a, b int64) api.Look {
		return func(kind, metric string, width int64) (int64, bool) {
			if metric == "a" {
				return a, true
			}
			return b, b != 99
		}
	}
	for range 3 {
		for _, c := range []struct {
			a, b int64
			want outcome
		}{
			{1, 3, outcome{33, 0, nil}}, {1, 0, outcome{0, 13, api.ErrDivide}}, {0, 3, outcome{0, 24, errOwn}}, {1, 99, outcome{0, 14, api.ErrNoData}}, {-1, -3, outcome{-34, 0, nil}},
		} {
			if got := outcomeOf(t, g, telling(c.a, c.b)); got != c.want {
				t.Errorf("P12: by %d and %d: %v, want %v", c.a, c.b, got, c.want)
			}
		}
	}
}

func TestP13Panics(t *testing.T) {
	checkPanic(t, "boom(1,2)", nil, 0, int64(2))
	checkPanic(t, "1 + boom()", nil, 4, int64(0))
	checkPanic(t, "1+least(bad,1)", measured, 2, "least")
	checkPanic(t, "größe()*sum(bad,1)/0", measured, 10, "sum")
	checkPanic(t, "boom(boom(1))", nil, 5, int64(1))
	checkPanic(t, "add(1,boom(),fail())", nil, 6, int64(0))
	checkPanic(t, "boom()+fail()", nil, 0, int64(0))
	checkPanic(t, "last(bad,1)?boom():fail()", measured, 0, "last")
	checkHold(t, "fail()+boom()", nil, 0, errOwn)
	checkHold(t, "1/0+boom()", nil, 1, api.ErrDivide)
	checkValue(t, "1?2:boom()", nil, 2)
}

func TestP13WhatItPanickedWith(t *testing.T) {
	type own struct{ n int }
	for _, value := range []any{"text", 7, int64(7), errOwn, own{3}, &own{4}, api.ErrNoData, &api.HoldError{Err: errOwn}, &api.PanicError{Value: 1}, [2]int{1, 2}} {
		g := mustLoad(t, "1+f()*last(a,1)", map[string]api.Probe{"f": func(...int64) (int64, error) {
			panic(value)
		}})
		h := mustLoad(t, "1*last(a,1)", nil)
		_, byProbe := g.Eval(measured)
		_, byLook := h.Eval(func(string, string, int64) (int64, bool) { panic(value) })
		for _, err := range []error{byProbe, byLook} {
			e, ok := err.(*api.HoldError)
			if !ok || e.At != 2 {
				t.Errorf("P13: a panic with %v: %T %v, want a HoldError at 2", value, err, err)
				continue
			}
			if p, ok := e.Err.(*api.PanicError); !ok || p.Value != value {
				t.Errorf("P13: a panic with %v: %T %v", value, e.Err, e.Err)
			}
		}
	}
}

func TestP13PanicsOfTheLanguage(t *testing.T) {
	zero := 0
	for what, f := range map[string]func(args []int64) int64{
		"an index":    func(args []int64) int64 { return args[len(args)] },
		"a division":  func(args []int64) int64 { return int64(1 / zero) },
		"a nil panic": func(args []int64) int64 { panic(nil) },
		"a nil map":   func(args []int64) int64 { var m map[int]int; m[1] = 1; return 0 },
		"deferred":    func(args []int64) int64 { defer func() { panic("second") }(); panic("first") },
	} {
		g := mustLoad(t, "f(1,2)", map[string]api.Probe{"f": func(args ...int64) (int64, error) { return f(args), nil }})
		for range 2 {
			n, err := g.Eval(nil)
			var p *api.PanicError
			if n != 0 || !errors.As(err, &p) || p.Value == nil {
				t.Errorf("P13: %s: %d, %v", what, n, err)
			}
		}
	}
}

func TestP13UsedOn(t *testing.T) {
	bad := true
	g := mustLoad(t, "f(1)+last(a,1)", map[string]api.Probe{"f": func(...int64) (int64, error) {
		if bad {
			panic("bad")
		}
		return 5, nil
	}})
	for range 3 {
		bad = true
		if n, err := g.Eval(measured); n != 0 || err == nil {
			t.Errorf("P13: %d, %v", n, err)
		}
		bad = false
		if n, err := g.Eval(measured); n != 41006 || err != nil {
			t.Errorf("P13: used on: %d, %v, want 41006", n, err)
		}
	}
}

func TestP2EvalsSideBySide(t *testing.T) {
	g := mustLoad(t, "add(last(a,1),last(b,2))*2-last(a,3)", given())
	var all sync.WaitGroup
	for i := range int64(8) {
		all.Go(func() {
			for range 200 {
				n, err := g.Eval(func(kind, metric string, width int64) (int64, bool) { return i * width, true })
				if n != 3*i || err != nil {
					t.Errorf("P2: side by side: %d, %v, want %d", n, err, 3*i)
				}
			}
		})
	}
	all.Wait()
}

func TestP1NilProgram(t *testing.T) {
	p, _ := scaler.Parse("1 +")
	if code := p.Code(); code != nil {
		t.Errorf("P1: Code of no policy = %v", code)
	}
	g, _ := scaler.Load(nil, nil)
	if l := listOf(g.Names()); l != nil {
		t.Errorf("P1: Names of no program = %q", l)
	}
	if n, err := g.Eval(measured); n != 0 || err == nil {
		t.Errorf("P1: Eval of no program = %d, %v", n, err)
	}
}

func FuzzLoad(f *testing.F) {
	for _, src := range samples() {
		p, err := scaler.Parse(src)
		if err != nil {
			f.Fatal(err)
		}
		f.Add(p.Code())
	}
	f.Fuzz(func(t *testing.T, code []byte) { checkCode(t, slices.Clone(code)) })
}
