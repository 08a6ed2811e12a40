package bytecode

import (
	"scaler/api"
	"scaler/syntax"
)

// Write compiles a policy (P10). Lengths, counts and places fit in a byte each, for its text has at most api.MaxText bytes.
func Write(tree *syntax.Tree) []byte { return appendPart(nil, tree.Root) }

func appendPart(out []byte, n syntax.Node) []byte {
	switch n := n.(type) {
	case *syntax.Number:
		return appendNumber(append(out, opNumber), n.Value)
	case *syntax.Minus:
		return appendPart(append(out, opMinus), n.Of)
	case *syntax.Pair:
		return appendPair(out, n)
	case *syntax.Choice:
		return appendParts(append(out, opChoice), n.If, n.Then, n.Else)
	case *syntax.Measure:
		out = appendText(appendPlace(append(out, opMeasure), n.Place), n.Kind)
		return appendNumber(appendText(out, n.Metric), n.Width)
	case *syntax.Probe:
		out = appendText(appendPlace(append(out, opProbe), n.Place), n.Name)
		return appendParts(append(out, byte(len(n.Args))), n.Args...)
	}
	return out
}

func appendParts(out []byte, list ...syntax.Node) []byte {
	for _, n := range list {
		out = appendPart(out, n)
	}
	return out
}

// appendPair writes the place of no sign but /: no other is ever told, and what is not told must not turn the bytes (P10).
func appendPair(out []byte, n *syntax.Pair) []byte {
	out = append(out, n.Sign)
	if n.Sign == opDivide {
		out = appendPlace(out, n.Place)
	}
	return appendParts(out, n.Left, n.Right)
}

func appendPlace(out []byte, p api.Place) []byte { return append(out, byte(p.At)) }

func appendText(out []byte, s string) []byte {
	return append(append(out, byte(len(s))), s...)
}

func appendNumber(out []byte, n int64) []byte {
	for i := range numberBytes {
		out = append(out, byte(n>>(8*(numberBytes-1-i))))
	}
	return out
}
