package syntax

import (
	"slices"
	"strings"

	"scaler/api"
)

// reader goes through the text with one token in view: the grammar never needs a second one to tell how it goes on, so the first token that fits nowhere is the one in view.
type reader struct {
	src     string
	now     token
	metrics []string
}

// Read reads a policy (P4).
func Read(src string) (*Tree, error) {
	if len(src) > api.MaxText {
		return nil, api.ErrLong
	}
	// Names are cut out of the text: by a copy they do not keep the caller's.
	r := &reader{src: strings.Clone(src)}
	r.now = tokenFrom(r.src, 0)
	root, err := r.choice()
	if err != nil {
		return nil, err
	}
	if r.now.kind != end {
		return nil, r.stuck()
	}
	return &Tree{root, r.metrics}, nil
}

func (r *reader) place() api.Place { return api.Place{At: r.now.at} }

func (r *reader) stuck() error { return &api.SyntaxError{Place: r.place()} }

func (r *reader) step() {
	r.now = tokenFrom(r.src, r.now.at+len(r.now.text))
}

// sees tells whether one of these signs is in view.
func (r *reader) sees(some string) bool {
	return r.now.kind == sign && strings.Contains(some, r.now.text)
}

func (r *reader) takeSign(s string) error {
	if !r.sees(s) {
		return r.stuck()
	}
	r.step()
	return nil
}

func (r *reader) take(kind tokenKind) (string, error) {
	if r.now.kind != kind {
		return "", r.stuck()
	}
	text := r.now.text
	r.step()
	return text, nil
}

func (r *reader) takeNumber() (int64, error) {
	digits, err := r.take(number)
	var n int64
	for _, d := range digits {
		n = n*10 + int64(d-'0')
	}
	return n, err
}

func (r *reader) choice() (Node, error) {
	test, err := r.compare()
	if err != nil || !r.sees("?") {
		return test, err
	}
	r.step()
	then, err := r.choice()
	if err != nil {
		return nil, err
	}
	if err := r.takeSign(":"); err != nil {
		return nil, err
	}
	other, err := r.choice()
	if err != nil {
		return nil, err
	}
	return &Choice{test, then, other}, nil
}

func (r *reader) compare() (Node, error) {
	left, err := r.sum()
	if err != nil || !r.sees("<>=") {
		return left, err
	}
	return r.pair(left, r.sum)
}

func (r *reader) sum() (Node, error) { return r.chain("+-", r.product) }

func (r *reader) product() (Node, error) { return r.chain("*/", r.minus) }

func (r *reader) chain(links string, part func() (Node, error)) (Node, error) {
	left, err := part()
	for err == nil && r.sees(links) {
		left, err = r.pair(left, part)
	}
	return left, err
}

// pair reads the sign in view and what stands behind it.
func (r *reader) pair(left Node, part func() (Node, error)) (Node, error) {
	at, between := r.place(), r.now.text[0]
	r.step()
	right, err := part()
	if err != nil {
		return nil, err
	}
	return &Pair{at, between, left, right}, nil
}

func (r *reader) minus() (Node, error) {
	switch {
	case r.sees("-"):
		return r.negative()
	case r.sees("("):
		return r.inner()
	case r.now.kind == name:
		return r.call()
	}
	n, err := r.takeNumber()
	if err != nil {
		return nil, err
	}
	return &Number{n}, nil
}

func (r *reader) negative() (Node, error) {
	r.step()
	of, err := r.minus()
	if err != nil {
		return nil, err
	}
	return &Minus{of}, nil
}

func (r *reader) inner() (Node, error) {
	r.step()
	n, err := r.choice()
	if err != nil {
		return nil, err
	}
	if err := r.takeSign(")"); err != nil {
		return nil, err
	}
	return n, nil
}

func (r *reader) call() (Node, error) {
	at, word := r.place(), r.now.text
	r.step()
	if err := r.takeSign("("); err != nil {
		return nil, err
	}
	if IsKind(word) {
		return r.measure(at, word)
	}
	return r.probe(at, word)
}

func (r *reader) measure(at api.Place, kind string) (Node, error) {
	metric, err := r.take(name)
	if err != nil {
		return nil, err
	}
	if err := r.takeSign(","); err != nil {
		return nil, err
	}
	width, err := r.takeNumber()
	if err != nil {
		return nil, err
	}
	if err := r.takeSign(")"); err != nil {
		return nil, err
	}
	r.note(metric)
	return &Measure{at, kind, metric, width}, nil
}

func (r *reader) note(metric string) {
	if !slices.Contains(r.metrics, metric) {
		r.metrics = append(r.metrics, metric)
	}
}

func (r *reader) probe(at api.Place, word string) (Node, error) {
	if r.sees(")") {
		r.step()
		return &Probe{at, word, nil}, nil
	}
	var args []Node
	for {
		arg, err := r.choice()
		if err != nil {
			return nil, err
		}
		args = append(args, arg)
		if !r.sees(",") {
			break
		}
		r.step()
	}
	if err := r.takeSign(")"); err != nil {
		return nil, err
	}
	return &Probe{at, word, args}, nil
}
