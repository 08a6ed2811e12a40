package bytecode

import (
	"scaler/api"
	"scaler/bounded"
)

// World is what a policy asks: the measurement (nil: there is nothing to measure) and the probes by their names.
type World struct {
	Look   api.Look
	Probes map[string]api.Probe
}

// Value works out a part of a policy (P9); its error is a HoldError.
type Value func(w World) (int64, error)

func hold(at api.Place, why error) error { return &api.HoldError{Place: at, Err: why} }

func numberOf(n int64) Value {
	return func(World) (int64, error) { return n, nil }
}

func minusOf(of Value) Value {
	return func(w World) (int64, error) {
		n, err := of(w)
		if err != nil {
			return 0, err
		}
		return bounded.Negative(n), nil
	}
}

// reckonerOf: how a sign reckons; nil: it is no pair's sign, or one that may hold.
func reckonerOf(sign byte) func(x, y int64) int64 {
	switch sign {
	case '+':
		return bounded.Sum
	case '-':
		return bounded.Difference
	case '*':
		return bounded.Product
	case '<':
		return func(x, y int64) int64 { return oneIf(x < y) }
	case '>':
		return func(x, y int64) int64 { return oneIf(x > y) }
	case '=':
		return func(x, y int64) int64 { return oneIf(x == y) }
	}
	return nil
}

func oneIf(holds bool) int64 {
	if holds {
		return 1
	}
	return 0
}

func pairOf(reckon func(x, y int64) int64, left, right Value) Value {
	return func(w World) (int64, error) {
		x, y, err := both(w, left, right)
		if err != nil {
			return 0, err
		}
		return reckon(x, y), nil
	}
}

func quotientOf(at api.Place, left, right Value) Value {
	return func(w World) (int64, error) {
		x, y, err := both(w, left, right)
		if err != nil {
			return 0, err
		}
		if y == 0 {
			return 0, hold(at, api.ErrDivide)
		}
		return bounded.Quotient(x, y), nil
	}
}

func both(w World, left, right Value) (x, y int64, err error) {
	if x, err = left(w); err != nil {
		return 0, 0, err
	}
	if y, err = right(w); err != nil {
		return 0, 0, err
	}
	return x, y, nil
}

func choiceOf(test, then, other Value) Value {
	return func(w World) (int64, error) {
		n, err := test(w)
		switch {
		case err != nil:
			return 0, err
		case n != 0:
			return then(w)
		}
		return other(w)
	}
}

func measureOf(at api.Place, kind, metric string, width int64) Value {
	return func(w World) (int64, error) {
		if w.Look == nil {
			return 0, hold(at, api.ErrNoData)
		}
		return ask(at, func() (int64, error) {
			n, there := w.Look(kind, metric, width)
			if !there {
				return 0, api.ErrNoData
			}
			return n, nil
		})
	}
}

func probeOf(at api.Place, name string, parts []Value) Value {
	return func(w World) (int64, error) {
		// The list is the probe's: it may write into it and keep it.
		args := make([]int64, len(parts))
		for i, part := range parts {
			n, err := part(w)
			if err != nil {
				return 0, err
			}
			args[i] = n
		}
		return ask(at, func() (int64, error) { return w.Probes[name](args...) })
	}
}

// ask calls a function that was handed in: its error, or the value with which it panics, is held at that place (P9, P13).
func ask(at api.Place, function func() (int64, error)) (int64, error) {
	n, err := recovered(function)
	if err != nil {
		return 0, hold(at, err)
	}
	return n, nil
}

// recovered asks by a mark of its own whether the function came back: a panic's value might be nil.
func recovered(function func() (int64, error)) (n int64, err error) {
	back := false
	defer func() {
		if v := recover(); !back {
			err = &api.PanicError{Value: v}
		}
	}()
	n, err = function()
	back = true
	return n, err
}
