package scaler_test

import (
	"math/rand"
	"slices"
	"strconv"
	"strings"
	"testing"

	"scaler/api"
	"scaler/scaler"
)

// The document's grammar, written out once more and gone through by another method (Earley's, which knows just the beginnings that some policy has): so that the place of a fault is held against the document, not against the reader's own ways.

type rule struct {
	left  string
	right []string
}

func grammar() []rule {
	var rules []rule
	for _, line := range []string{
		"policy > choice",
		"choice > compare", "choice > compare ? choice : choice",
		"compare > sum", "compare > sum < sum",
		"sum > product", "sum > sum + product", "sum > sum - product",
		"product > minus", "product > product * minus",
		"minus > - minus", "minus > NUMBER", "minus > measure", "minus > probe", "minus > ( choice )",
		"measure > KIND ( name , NUMBER )", "name > KIND", "name > NAME",
		"probe > NAME ( )", "probe > NAME ( list )",
		"list > choice", "list > list , choice",
	} {
		words := strings.Fields(line)
		rules = append(rules, rule{words[0], words[2:]})
	}
	return rules
}

// item: a rule of which the first dot parts have been seen, from that token on.
type item struct{ rule, dot, from int }

type chart struct {
	rules []rule
	sets  [][]item
}

func newChart() *chart {
	c := &chart{rules: grammar()}
	c.push([]item{{0, 0, 0}})
	return c
}

func (c *chart) next(it item) string {
	if right := c.rules[it.rule].right; it.dot < len(right) {
		return right[it.dot]
	}
	return ""
}

// moved: the items of a set that wait for a part, behind that part.
func (c *chart) moved(set []item, part string) []item {
	var out []item
	for _, it := range set {
		if c.next(it) == part {
			out = append(out, item{it.rule, it.dot + 1, it.from})
		}
	}
	return out
}

// push adds a set, with all that follows from its items.
func (c *chart) push(set []item) {
	here := len(c.sets)
	c.sets = append(c.sets, nil)
	for i := 0; i < len(set); i++ {
		var more []item
		if part := c.next(set[i]); part != "" {
			for n, r := range c.rules {
				if r.left == part {
					more = append(more, item{n, 0, here})
				}
			}
		} else {
			more = c.moved(c.sets[set[i].from], c.rules[set[i].rule].left)
		}
		for _, it := range more {
			if !slices.Contains(set, it) {
				set = append(set, it)
			}
		}
	}
	c.sets[here] = set
}

// goOn tells whether a policy can go on with that token, and if so, goes on.
func (c *chart) goOn(token string) bool {
	set := c.moved(c.sets[len(c.sets)-1], token)
	if len(set) == 0 {
		return false
	}
	c.push(set)
	return true
}

func (c *chart) back() { c.sets = c.sets[:len(c.sets)-1] }

func (c *chart) whole() bool {
	return slices.Contains(c.sets[len(c.sets)-1], item{0, 1, 0})
}

func TestP4EveryBeginning(t *testing.T) {
	tokens := map[string]string{"NUMBER": "07", "NAME": "größe", "KIND": "mean"}
	for _, s := range []string{"?", ":", "<", "+", "-", "*", "(", ")", ","} {
		tokens[s] = s
	}
	checked := 0
	c := newChart()
	var walk func(src string, depth int)
	walk = func(src string, depth int) {
		for class, token := range tokens {
			checked++
			longer := src + token + " "
			if !c.goOn(class) {
				checkSyntaxError(t, longer, len(src))
				continue
			}
			if c.whole() {
				mustParse(t, longer)
			} else {
				checkSyntaxError(t, longer, len(longer))
			}
			if depth > 1 {
				walk(longer, depth-1)
			}
			c.back()
		}
	}
	walk("", 8)
	if checked < 10000 {
		t.Errorf("only %d beginnings were checked", checked)
	}
}

// maker makes policies by the document's grammar: each part as a text and as String writes it.
type maker struct {
	*rand.Rand
	metrics []string
}

type part struct{ src, want string }

func (m *maker) pick(of ...string) string { return of[m.Intn(len(of))] }

// gap: blanks, mostly none.
func (m *maker) gap() string { return m.pick("", "", "", " ", "\t", "\n ") }

// join sets signs and parts behind each other: the text with blanks between.
func (m *maker) join(l ...part) part {
	var out part
	for _, x := range l {
		out.src += x.src + m.gap()
		out.want += x.want
	}
	return out
}

func same(s string) part { return part{s, s} }

// closed: a part that is written in parentheses, whether the text has them or not.
func closed(x part) part { return part{x.src, "(" + x.want + ")"} }

func (m *maker) number() part {
	n := strconv.Itoa(m.Intn(1000))
	return part{strings.Repeat("0", m.Intn(3)) + n, n}
}

func (m *maker) choice(depth int) part {
	x := m.compare(depth)
	if depth > 0 && m.Intn(3) == 0 {
		then := m.choice(depth - 1)
		return closed(m.join(x, same("?"), then, same(":"), m.choice(depth-1)))
	}
	return x
}

func (m *maker) compare(depth int) part {
	x := m.sum(depth)
	if depth > 0 && m.Intn(3) == 0 {
		return closed(m.join(x, same(m.pick("<", ">", "=")), m.sum(depth-1)))
	}
	return x
}

func (m *maker) sum(depth int) part {
	x := m.product(depth)
	for depth > 0 && m.Intn(3) == 0 {
		x = closed(m.join(x, same(m.pick("+", "-")), m.product(depth-1)))
	}
	return x
}

func (m *maker) product(depth int) part {
	x := m.minus(depth)
	for depth > 0 && m.Intn(3) == 0 {
		x = closed(m.join(x, same(m.pick("*", "/")), m.minus(depth-1)))
	}
	return x
}

func (m *maker) minus(depth int) part {
	switch n := m.Intn(6); {
	case depth > 0 && n == 0:
		return closed(m.join(same("-"), m.minus(depth-1)))
	case depth > 0 && n == 1:
		x := m.choice(depth - 1)
		return part{m.join(same("("), x, same(")")).src, x.want}
	case depth > 0 && n == 2:
		return m.probe(depth - 1)
	case n <= 3:
		return m.measure()
	}
	return m.number()
}

func (m *maker) measure() part {
	kind := m.pick("sum", "count", "least", "most", "mean", "last")
	metric := m.pick("a", "b", "größe", "sum", "x1", "мера")
	if !slices.Contains(m.metrics, metric) {
		m.metrics = append(m.metrics, metric)
	}
	return m.join(same(kind), same("("), same(metric), same(","), m.number(), same(")"))
}

func (m *maker) probe(depth int) part {
	x := m.join(same(m.pick("f", "größe", "summe", "a", "x٣")), same("("))
	for i := range m.Intn(4) {
		if i > 0 {
			x = m.join(x, same(","))
		}
		x = m.join(x, m.choice(depth))
	}
	return m.join(x, same(")"))
}

func TestP4P5P6MadePolicies(t *testing.T) {
	m := &maker{Rand: rand.New(rand.NewSource(7))}
	checked := 0
	for range 20000 {
		m.metrics = nil
		x := m.choice(3)
		src := m.gap() + x.src
		if len(src) > api.MaxText {
			if p, err := scaler.Parse(src); p != nil || err != api.ErrLong {
				t.Fatalf("P4: Parse of %d bytes = %v, %v", len(src), p, err)
			}
			continue
		}
		checked++
		p := mustParse(t, src)
		if s := p.String(); s != x.want {
			t.Fatalf("P5: Parse(%q).String() = %q, want %q", src, s, x.want)
		}
		if l := listOf(p.Names()); !slices.Equal(l, m.metrics) {
			t.Fatalf("P6: Names of %q = %q, want %q", src, l, m.metrics)
		}
	}
	if checked < 10000 {
		t.Errorf("only %d policies were checked", checked)
	}
}
