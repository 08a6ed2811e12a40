// Package syntax reads the text of a policy to a tree, and writes the tree as a text.
package syntax

import (
	"strconv"
	"strings"

	"scaler/api"
)

// Tree is a policy that was read; Metrics: the names that it measures, each once, in the order of the text.
type Tree struct {
	Root    Node
	Metrics []string
}

// Node is a part of a policy that has a value.
type Node interface {
	write(out *strings.Builder)
}

// The kinds of nodes.
type (
	Number struct{ Value int64 }

	Minus struct{ Of Node }

	// Pair is a comparison, sum, difference, product or quotient; its place is the sign's.
	Pair struct {
		api.Place
		Sign        byte
		Left, Right Node
	}

	Choice struct{ If, Then, Else Node }

	// Measure has the place of its kind.
	Measure struct {
		api.Place
		Kind, Metric string
		Width        int64
	}

	// Probe has the place of its name.
	Probe struct {
		api.Place
		Name string
		Args []Node
	}
)

// String writes the policy (P5).
func (t *Tree) String() string {
	var out strings.Builder
	t.Root.write(&out)
	return out.String()
}

func (n *Number) write(out *strings.Builder) {
	out.WriteString(strconv.FormatInt(n.Value, 10))
}

func (n *Minus) write(out *strings.Builder) {
	out.WriteString("(-")
	n.Of.write(out)
	out.WriteByte(')')
}

func (n *Pair) write(out *strings.Builder) {
	out.WriteByte('(')
	n.Left.write(out)
	out.WriteByte(n.Sign)
	n.Right.write(out)
	out.WriteByte(')')
}

func (n *Choice) write(out *strings.Builder) {
	out.WriteByte('(')
	n.If.write(out)
	out.WriteByte('?')
	n.Then.write(out)
	out.WriteByte(':')
	n.Else.write(out)
	out.WriteByte(')')
}

func (n *Measure) write(out *strings.Builder) {
	out.WriteString(n.Kind + "(" + n.Metric + "," + strconv.FormatInt(n.Width, 10) + ")")
}

func (n *Probe) write(out *strings.Builder) {
	out.WriteString(n.Name + "(")
	for i, arg := range n.Args {
		if i > 0 {
			out.WriteByte(',')
		}
		arg.write(out)
	}
	out.WriteByte(')')
}
