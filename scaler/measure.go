package scaler

import (
	"scaler/bounded"
	"scaler/bytecode"
)

// windows are those that a program measures over, by metric (none: it does not measure that) and width. They are there from the beginning on: a measure may first be worked out long behind samples that count in it.
type windows map[string]map[int64]*Window[int64]

func windowsOver(spans []bytecode.Span) windows {
	ws := make(windows)
	for _, s := range spans {
		if ws[s.Metric] == nil {
			ws[s.Metric] = make(map[int64]*Window[int64])
		}
		ws[s.Metric][s.Width] = NewWindow[int64](s.Width)
	}
	return ws
}

func (ws windows) take(metric string, value, t int64) {
	for _, w := range ws[metric] {
		w.Push(t, value)
	}
}

// at lets time pass in a window only when it is asked for: what is in it hangs on its samples and on the time alone, not on the way there.
func (ws windows) at(t int64, metric string, width int64) *Window[int64] {
	w := ws[metric][width]
	w.Advance(t)
	return w
}

// measured is what a measure tells of a window; false: there is nothing to measure (P16).
func measured(kind string, w *Window[int64]) (int64, bool) {
	count := int64(w.Len())
	switch kind {
	case "count":
		return count, true
	case "sum":
		return total(w), true
	case "least":
		return w.Least()
	case "most":
		return w.Most()
	case "mean":
		if count > 0 {
			return bounded.Quotient(total(w), count), true
		}
	case "last":
		return newest(w), count > 0
	}
	return 0, false
}

func total(w *Window[int64]) int64 { return Fold(w, 0, bounded.Sum) }

func newest(w *Window[int64]) int64 {
	return Fold(w, 0, func(_, v int64) int64 { return v })
}
