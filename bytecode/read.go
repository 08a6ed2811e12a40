package bytecode

import (
	"slices"
	"strconv"

	"scaler/api"
	"scaler/syntax"
)

// Loaded is what code comes to: the function that works out its value, and, in the order of the text, the metrics (each once), the spans and the probes that it asks for.
type Loaded struct {
	Value   Value
	Metrics []string
	Spans   []Span
	Probes  []Call
}

// Span is what a measure is taken over: a metric, and how long.
type Span struct {
	Metric string
	Width  int64
}

// Call is a probe's name, and the place at which it stands.
type Call struct {
	api.Place
	Name string
}

// reader goes through code from the front. The first fault makes all of it wrong: behind that, what is read does not matter.
type reader struct {
	rest    []byte
	parts   int
	wrong   bool
	metrics []string
	spans   []Span
	probes  []Call
}

// Read checks code and makes functions of it: ErrCode, if these bytes are none.
func Read(code []byte) (*Loaded, error) {
	r := &reader{rest: code}
	value := r.part()
	if r.wrong || len(r.rest) > 0 {
		return nil, api.ErrCode
	}
	return &Loaded{value, r.metrics, r.spans, r.probes}, nil
}

func (r *reader) require(holds bool) { r.wrong = r.wrong || !holds }

func (r *reader) take(n int) []byte {
	r.require(n <= len(r.rest))
	if r.wrong {
		return make([]byte, n)
	}
	taken := r.rest[:n]
	r.rest = r.rest[n:]
	return taken
}

func (r *reader) next() byte { return r.take(1)[0] }

func (r *reader) place() api.Place {
	at := int(r.next())
	r.require(at < api.MaxText)
	return api.Place{At: at}
}

func (r *reader) number() int64 {
	var n int64
	for _, b := range r.take(numberBytes) {
		n = n<<8 | int64(b)
	}
	r.require(len(strconv.FormatInt(n, 10)) <= api.MaxDigits)
	return n
}

func (r *reader) name() string {
	text := string(r.take(int(r.next())))
	r.require(syntax.IsName(text))
	return text
}

// part reads a part. Each part of a policy has a byte of the text for itself at least, so none has more parts than bytes: by that, no code leads too deep.
func (r *reader) part() Value {
	r.parts++
	r.require(r.parts <= api.MaxText)
	if r.wrong {
		return nil
	}
	switch op := r.next(); op {
	case opNumber:
		return numberOf(r.number())
	case opMinus:
		return minusOf(r.part())
	case opDivide:
		at := r.place()
		left := r.part()
		return quotientOf(at, left, r.part())
	case opChoice:
		test := r.part()
		then := r.part()
		return choiceOf(test, then, r.part())
	case opMeasure:
		return r.measure()
	case opProbe:
		return r.probe()
	default:
		reckon := reckonerOf(op)
		r.require(reckon != nil)
		left := r.part()
		return pairOf(reckon, left, r.part())
	}
}

func (r *reader) measure() Value {
	at, kind := r.place(), r.name()
	r.require(syntax.IsKind(kind))
	metric, width := r.name(), r.number()
	if !slices.Contains(r.metrics, metric) {
		r.metrics = append(r.metrics, metric)
	}
	r.spans = append(r.spans, Span{metric, width})
	return measureOf(at, kind, metric, width)
}

func (r *reader) probe() Value {
	at, name := r.place(), r.name()
	r.require(!syntax.IsKind(name))
	r.probes = append(r.probes, Call{at, name})
	args := make([]Value, r.next())
	for i := range args {
		args[i] = r.part()
	}
	return probeOf(at, name, args)
}
