package scaler_test

import (
	"errors"
	"math/rand"
	"slices"
	"strings"
	"sync"
	"testing"

	"scaler/api"
	"scaler/scaler"
)

func mustParse(t *testing.T, src string) *scaler.Policy {
	t.Helper()
	p, err := scaler.Parse(src)
	if err != nil || p == nil {
		t.Fatalf("P4: Parse(%q) = %v, %v, want a policy", src, p, err)
	}
	return p
}

// checkSyntaxError asks for the type itself, not for one that wraps it (P3).
func checkSyntaxError(t *testing.T, src string, at int) {
	t.Helper()
	p, err := scaler.Parse(src)
	if p != nil {
		t.Errorf("P3: Parse(%q): a policy beside the error %v", src, err)
	}
	e, ok := err.(*api.SyntaxError)
	if !ok || e == nil {
		t.Errorf("P4: Parse(%q): the error is %T (%v), want a *SyntaxError at %d", src, err, err, at)
		return
	}
	if e.At != at {
		t.Errorf("P4: Parse(%q): a SyntaxError at %d, want %d", src, e.At, at)
	}
}

func listOf(seq api.Seq[string]) []string {
	var l []string
	for s := range seq {
		l = append(l, s)
	}
	return l
}

func TestP4P5Ordinary(t *testing.T) {
	for _, c := range []struct{ src, want string }{
		{"1 + 2*3-4", "((1+(2*3))-4)"},
		{"--007", "(-(-7))"},
		{"a() ? b(1, 2) : mean(load, 010) / 70", "(a()?b(1,2):(mean(load,10)/70))"},
		{"sum(größe,5)<3", "(sum(größe,5)<3)"},
		{"1<2?3:4?5:6", "((1<2)?3:(4?5:6))"},
		{"0", "0"},
		{"00", "0"},
		{"0012", "12"},
		{"1200", "1200"},
		{"((((5))))", "5"},
		{"8-4-2", "((8-4)-2)"},
		{"8-(4-2)", "(8-(4-2))"},
		{"8/4/2", "((8/4)/2)"},
		{"8/(4/2)", "(8/(4/2))"},
		{"8*4/2*3", "(((8*4)/2)*3)"},
		{"1-2+3", "((1-2)+3)"},
		{"1*2+3/4", "((1*2)+(3/4))"},
		{"(1+2)*3", "((1+2)*3)"},
		{"-1-2", "((-1)-2)"},
		{"-(1-2)", "(-(1-2))"},
		{"2*-3", "(2*(-3))"},
		{"1 - - 2", "(1-(-2))"},
		{"1+1=2", "((1+1)=2)"},
		{"1>2", "(1>2)"},
		{"(1<2)=(3>4)", "((1<2)=(3>4))"},
		{"1?2:3", "(1?2:3)"},
		{"1?2?3:4:5?6:7", "(1?(2?3:4):(5?6:7))"},
		{"(1?2:3)?4:5", "((1?2:3)?4:5)"},
		{"(1?2:3)+4", "((1?2:3)+4)"},
		{"f()", "f()"},
		{"f(1?2:3,4<5,-6)", "f((1?2:3),(4<5),(-6))"},
		{"f(g(h()),(1))", "f(g(h()),1)"},
		{"sum(a,1)+count(a,2)+least(a,3)", "((sum(a,1)+count(a,2))+least(a,3))"},
		{"most(a,1)*mean(a,2)*last(a,3)", "((most(a,1)*mean(a,2))*last(a,3))"},
		{"mean(mean,0)", "mean(mean,0)"},
		{"last(count,000000009)", "last(count,9)"},
		{"summ(1)", "summ(1)"},
		{"Sum(1)", "Sum(1)"},
		{"su(1)", "su(1)"},
		{"sum1()", "sum1()"},
		{"x1y22()", "x1y22()"},
		{"温度(1)", "温度(1)"},
		{"x٣४(1)", "x٣४(1)"},
	} {
		if s := mustParse(t, c.src).String(); s != c.want {
			t.Errorf("P5: Parse(%q).String() = %q, want %q", c.src, s, c.want)
		}
	}
}

func TestP5WrittenAgain(t *testing.T) {
	for _, src := range []string{"1+2*3-4", "--007", "a()?b(1,2):mean(load,010)/70", "1<2?3:4?5:6", "f(1?2:3,-(4=5))"} {
		once := mustParse(t, src).String()
		if twice := mustParse(t, once).String(); twice != once {
			t.Errorf("P5: %q is written as %q, and that as %q", src, once, twice)
		}
	}
}

func TestP4Blanks(t *testing.T) {
	tokens := []string{"-", "f", "(", "1", ",", "sum", "(", "größe", ",", "05", ")", ")", "<", "2", "?", "3", ":", "4"}
	for _, blank := range []string{"", " ", "\t", "\n", " \n\t "} {
		src := blank + strings.Join(tokens, blank) + blank
		if s := mustParse(t, src).String(); s != "(((-f(1,sum(größe,5)))<2)?3:4)" {
			t.Errorf("P4: Parse(%q).String() = %q", src, s)
		}
	}
	for _, other := range []string{"\r", "\v", "\f", "\x00", "\u00a0", "\u2028", "\ufeff"} {
		checkSyntaxError(t, "1"+other, 1)
		checkSyntaxError(t, other+"1", 0)
	}
}

func TestP4WrongToken(t *testing.T) {
	for _, c := range []struct {
		src string
		at  int
	}{
		{"1 2", 2}, {"1<2<3", 3}, {"1=2>3", 3}, {"sum(load)", 8}, {"sum(load,-1)", 9}, {"f(1,)", 4},
		{"f(,)", 2}, {"f(1;2)", 3}, {"f(1 2)", 4}, {"f(1:2)", 3}, {"f(1?2,3)", 5}, {"f 1", 2}, {"f+1", 1}, {"f g()", 2},
		{"sum()", 4}, {"sum(1)", 4}, {"sum(,1)", 4}, {"sum(a(),1)", 5}, {"sum((a),1)", 4}, {"sum(a 1)", 6},
		{"sum(a,b)", 6}, {"sum(a,(1))", 6}, {"sum(a,)", 6}, {"sum(a,1+1)", 7}, {"sum(a,1,1)", 7}, {"sum+1", 3}, {"sum sum", 4},
		{")", 0}, {"()", 1}, {"(1))", 3}, {"(1 2)", 3}, {"(1,2)", 2}, {"1,2", 1}, {"1(2)", 1},
		{"+1", 0}, {"/1", 0}, {"<1", 0}, {"?1:2", 0}, {":", 0}, {",", 0},
		{"1+*2", 2}, {"1+/2", 2}, {"1*+2", 2}, {"1-+2", 2}, {"-+1", 1}, {"1<=2", 2}, {"1=<2", 2}, {"1<>2", 2},
		{"1?:2", 2}, {"1?2,3", 3}, {"1?2?3:4", 7}, {"1?2:3:4", 5}, {"1:2", 1}, {"(1?2):3", 4}, {"(1?2:3", 6}, {"1?2:3)", 5},
		{"1a", 1}, {"1 a()", 2}, {"a()1", 3}, {"a()b()", 3}, {"a()()", 3}, {"sum(a,1)(2)", 8},
		{"  ?", 2}, {"1\n\t 2", 4}, {"größe 1", 8},
	} {
		checkSyntaxError(t, c.src, c.at)
	}
}

func TestP4NoToken(t *testing.T) {
	for _, c := range []struct {
		src string
		at  int
	}{
		{"1 $", 2}, {"$", 0}, {"_a()", 0}, {"a_b()", 1}, {"1.5", 1}, {"f(1)!", 4}, {"1 & 2", 2}, {"1−2", 1}, {"😀()", 0}, {"a😀()", 1},
		{"٣", 0}, {"1٣", 1}, {"٣a()", 0}, {"e\u0301()", 1}, {"\u0301()", 0}, {"½", 0}, {"a²()", 1}, {"sum(٣,1)", 4}, {"sum(a,٣)", 6}, {"\ufffd()", 0},
		{"\xff", 0}, {"1 \xff", 2}, {"a\xff()", 1}, {"f(\x80)", 2}, {"ä\xc3()", 2}, {"\xc3", 0}, {"1\xe6\xb8", 1}, {"\xed\xa0\x80()", 0}, {"\xc1\x81()", 0}, {"sum(a\xff,1)", 5},
	} {
		checkSyntaxError(t, c.src, c.at)
	}
}

func TestP4EarlierFaultFirst(t *testing.T) {
	for _, c := range []struct {
		src string
		at  int
	}{
		{"1 2 $", 2}, {"1 $ 2", 2}, {"1 2 1234567890", 2}, {"f(,abcdefghijklm())", 2}, {"1+*\xff", 2}, {"1 \xff (", 2}, {"1234567890 $", 0},
	} {
		checkSyntaxError(t, c.src, c.at)
	}
}

func TestP4EndsTooEarly(t *testing.T) {
	for _, src := range []string{
		"", " ", "\n\t ", "1 +", "1 + ", "load", "load ", "sum", "sum(", "sum(load", "sum(load,", "sum(load,1", "sum(größe", "f", "f(", "f(1", "f(1,", "f((1)",
		"-", "--", "1-", "1*", "1/", "1<", "1>", "1=", "1?", "1?2", "1?2:", "1?2?3:4:", "(", "(1", "((1)", "größe",
		strings.Repeat("(", 200), strings.Repeat("-", 200), strings.Repeat("f(", 100), strings.Repeat("1?", 100), strings.Repeat(" ", 200),
	} {
		checkSyntaxError(t, src, len(src))
	}
}

func TestP4LongText(t *testing.T) {
	for _, c := range []struct{ src, want string }{
		{strings.Repeat(" ", 199) + "1", "1"},
		{"1" + strings.Repeat("\n", 199), "1"},
		{strings.Repeat("(", 99) + "12" + strings.Repeat(")", 99), "12"},
		{strings.Repeat("-", 199) + "1", strings.Repeat("(-", 199) + "1" + strings.Repeat(")", 199)},
		{"10" + strings.Repeat("+1", 99), strings.Repeat("(", 99) + "10" + strings.Repeat("+1)", 99)},
		{"f(" + strings.Repeat("1,", 98) + "1)", "f(" + strings.Repeat("1,", 98) + "1)"},
		{"ä()" + strings.Repeat(" ", 196), "ä()"},
	} {
		if len(c.src) > 200 {
			t.Fatalf("%q has %d bytes", c.src, len(c.src))
		}
		if s := mustParse(t, c.src).String(); s != c.want {
			t.Errorf("P5: Parse(%q).String() = %q, want %q", c.src, s, c.want)
		}
	}
	// Bytes count, not runes; and the length is asked ahead of what the text says.
	for _, src := range []string{
		strings.Repeat(" ", 200) + "1", "1" + strings.Repeat(" ", 200), "1+" + strings.Repeat(" ", 199), strings.Repeat("$", 201), strings.Repeat("ä", 101), strings.Repeat("\xff", 201), strings.Repeat("(", 1<<20),
	} {
		if p, err := scaler.Parse(src); p != nil || err != api.ErrLong {
			t.Errorf("P4: Parse of %d bytes = %v, %v, want ErrLong", len(src), p, err)
		}
	}
}

func TestP4LongNames(t *testing.T) {
	for _, letter := range []string{"a", "ä", "温", "𝒳"} {
		twelve, more := strings.Repeat(letter, 12), strings.Repeat(letter, 13)
		for _, src := range []string{twelve + "()", "sum(" + twelve + ",1)", letter + "12345678901()", letter + "٣٣٣٣٣٣٣٣٣٣٣()"} {
			if s := mustParse(t, src).String(); s != src {
				t.Errorf("P5: Parse(%q).String() = %q", src, s)
			}
		}
		checkSyntaxError(t, more+"()", 0)
		checkSyntaxError(t, "1 + "+more+"()", 4)
		checkSyntaxError(t, "sum("+more+",1)", 4)
		checkSyntaxError(t, letter+"123456789012()", 0)
		checkSyntaxError(t, twelve+"$", len(twelve))
	}
}

func TestP4LongNumbers(t *testing.T) {
	for src, want := range map[string]string{"999999999": "999999999", "000000000": "0", "000000010": "10", "sum(a,123456789)": "sum(a,123456789)", "-999999999": "(-999999999)"} {
		if s := mustParse(t, src).String(); s != want {
			t.Errorf("P5: Parse(%q).String() = %q, want %q", src, s, want)
		}
	}
	checkSyntaxError(t, "1234567890", 0)
	checkSyntaxError(t, "0000000000", 0)
	checkSyntaxError(t, "1+1234567890", 2)
	checkSyntaxError(t, "-1234567890", 1)
	checkSyntaxError(t, "sum(a,1234567890)", 6)
	checkSyntaxError(t, "f(1234567890)", 2)
	checkSyntaxError(t, "1234567890a", 0)
	checkSyntaxError(t, strings.Repeat("9", 200), 0)
}

func TestP3ErrorsAsValues(t *testing.T) {
	_, err := scaler.Parse("1 +")
	var e *api.SyntaxError
	if !errors.As(err, &e) || e.Place != (api.Place{At: 3}) {
		t.Errorf("P3: errors.As finds %v in %v", e, err)
	}
	if errors.Is(err, api.ErrLong) {
		t.Error("P3: a SyntaxError is no ErrLong")
	}
	_, err = scaler.Parse(strings.Repeat("1", 201))
	if !errors.Is(err, api.ErrLong) || errors.As(err, &e) {
		t.Errorf("P3: 201 bytes: %v", err)
	}
	if p, err := scaler.Parse("1"); p == nil || err != nil {
		t.Errorf("P3: Parse(1) = %v, %v", p, err)
	}
}

func TestP6Order(t *testing.T) {
	for _, c := range []struct {
		src  string
		want []string
	}{
		{"1", nil},
		{"f(g(),1)+h()", nil},
		{"sum(a,1)", []string{"a"}},
		{"sum(a,1)+sum(a,1)", []string{"a"}},
		{"sum(b,1)*last(a,2)-count(b,3)", []string{"b", "a"}},
		{"1?sum(z,1):sum(y,1)?sum(x,1):sum(z,2)", []string{"z", "y", "x"}},
		{"f(sum(c,1),g(-sum(b,1)))<sum(a,1)", []string{"c", "b", "a"}},
		{"sum(sum,1)+sum(count,1)", []string{"sum", "count"}},
		{"sum(größe,1)+sum(GRÖSSE,1)+sum(grösse,1)+most(größe,9)", []string{"größe", "GRÖSSE", "grösse"}},
		{"a()+sum(b,1)+b()", []string{"b"}},
		{"sum ( a , 1 ) + sum(a1,1)", []string{"a", "a1"}},
	} {
		if l := listOf(mustParse(t, c.src).Names()); !slices.Equal(l, c.want) {
			t.Errorf("P6: Names of %q = %q, want %q", c.src, l, c.want)
		}
	}
}

func TestP6StopsAndGoesAgain(t *testing.T) {
	p := mustParse(t, "sum(b,1)+f(last(a,2),count(b,3))?mean(c,1):most(a,1)+least(d,4)")
	want := []string{"b", "a", "c", "d"}
	seq := p.Names()
	for n := 1; n <= len(want); n++ {
		var l []string
		seq(func(s string) bool {
			l = append(l, s)
			return len(l) < n
		})
		if !slices.Equal(l, want[:n]) {
			t.Errorf("P6: stopped behind %d: %q, want %q", n, l, want[:n])
		}
		if l := listOf(seq); !slices.Equal(l, want) {
			t.Errorf("P6: gone through again behind a stop: %q, want %q", l, want)
		}
		if l := listOf(p.Names()); !slices.Equal(l, want) {
			t.Errorf("P6: Names asked again: %q, want %q", l, want)
		}
	}
}

func TestP6OneWithinAnother(t *testing.T) {
	seq := mustParse(t, "sum(a,1)+sum(b,1)").Names()
	var l []string
	for x := range seq {
		for y := range seq {
			l = append(l, x+y)
		}
	}
	if !slices.Equal(l, []string{"aa", "ab", "ba", "bb"}) {
		t.Errorf("P6: one within another: %q", l)
	}
}

func TestP1NilPolicy(t *testing.T) {
	p, _ := scaler.Parse("1 +")
	if s := p.String(); s != "" {
		t.Errorf("P1: String of no policy = %q", s)
	}
	if l := listOf(p.Names()); l != nil {
		t.Errorf("P1: Names of no policy = %q", l)
	}
}

// checkWhole asks what holds at any text: a policy or an error, not both, the same once more, and a place within the text.
func checkWhole(t *testing.T, src string) {
	t.Helper()
	p, err := scaler.Parse(src)
	q, again := scaler.Parse(src)
	if (p == nil) == (err == nil) || (p == nil) != (q == nil) {
		t.Fatalf("P3: Parse(%q) = %v, %v, then %v, %v", src, p, err, q, again)
	}
	if err == nil {
		if p.String() != q.String() || !slices.Equal(listOf(p.Names()), listOf(q.Names())) {
			t.Fatalf("P2: Parse(%q) tells %v, then %v", src, p, q)
		}
		return
	}
	if (len(src) > api.MaxText) != (err == api.ErrLong) {
		t.Fatalf("P4: Parse of %d bytes: %v", len(src), err)
	}
	if err == api.ErrLong {
		return
	}
	e, ok := err.(*api.SyntaxError)
	f, same := again.(*api.SyntaxError)
	if !ok || !same || e.At != f.At || e.At < 0 || e.At > len(src) {
		t.Fatalf("P4: Parse(%q): %T %v, then %T %v", src, err, err, again, again)
	}
	checkCut(t, src, e.At)
}

// checkCut: what stands ahead of the place can go on: cut off there, the text is a policy or ends too early.
func checkCut(t *testing.T, src string, at int) {
	t.Helper()
	_, err := scaler.Parse(src[:at])
	if e, ok := err.(*api.SyntaxError); err != nil && (!ok || e.At != at) {
		t.Fatalf("P4: Parse(%q) fails at %d, but what stands ahead of that: %v", src, at, err)
	}
}

func TestP1AnyText(t *testing.T) {
	pieces := []string{"", " ", "\n", "1", "007", "1234567890", "f", "sum", "größe", "abcdefghijklm", "(", ")", ",", "?", ":", "<", "=", "+", "-", "*", "/", "$", "\x00", "\xff", "\xc3", "٣"}
	for _, a := range pieces {
		for _, b := range pieces {
			for _, c := range pieces {
				checkWhole(t, a+b+c)
			}
		}
	}
	r := rand.New(rand.NewSource(1))
	for range 20000 {
		var src strings.Builder
		for range r.Intn(60) {
			src.WriteString(pieces[r.Intn(len(pieces))])
		}
		checkWhole(t, src.String())
	}
	for _, piece := range pieces[1:] {
		for n := 150; n <= 210; n++ {
			checkWhole(t, strings.Repeat(piece, n))
		}
	}
}

func TestP1SpoiltText(t *testing.T) {
	src := "a() ? b(1, -2) : (mean(größe, 010) / 70 < 3) * last(sum,5)"
	for at := range src {
		checkWhole(t, src[:at])
		checkWhole(t, src[at:])
		for b := range 256 {
			checkWhole(t, src[:at]+string([]byte{byte(b)})+src[at:])
			checkWhole(t, src[:at]+string([]byte{byte(b)})+src[at+1:])
		}
	}
}

func TestP2SideBySide(t *testing.T) {
	p := mustParse(t, "f(sum(b,1),-7)?last(a,2):mean(b,3)")
	texts, names := make([]string, 8), make([][]string, 8)
	var all sync.WaitGroup
	for i := range texts {
		all.Go(func() {
			for range 100 {
				texts[i], names[i] = p.String(), listOf(p.Names())
			}
		})
	}
	all.Wait()
	for i := range texts {
		if texts[i] != "(f(sum(b,1),(-7))?last(a,2):mean(b,3))" || !slices.Equal(names[i], []string{"b", "a"}) {
			t.Errorf("P2: side by side: %q, %q", texts[i], names[i])
		}
	}
}

func FuzzParse(f *testing.F) {
	for _, src := range []string{"", "1 + 2*3-4", "a() ? b(1, 2) : mean(load, 010) / 70", "sum(größe,5)<3", "1<2<3", "1 \xff"} {
		f.Add(src)
	}
	f.Fuzz(func(t *testing.T, src string) { checkWhole(t, src) })
}
