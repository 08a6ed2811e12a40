// Package scaler: scaling policies: a small language of measurements, compiled to code, and controllers that decide by it: see DOC.md.
package scaler

import (
	"scaler/api"
	"scaler/bytecode"
	"scaler/syntax"
)

// Policy is a policy that was read.
type Policy struct{ tree *syntax.Tree }

// Parse reads a policy (P4).
func Parse(src string) (*Policy, error) {
	tree, err := syntax.Read(src)
	if err != nil {
		return nil, err
	}
	return &Policy{tree}, nil
}

// empty: a Parse that fails gives a nil policy, and no call may panic at what a call gave.
func (p *Policy) empty() bool { return p == nil || p.tree == nil }

// String writes it (P5).
func (p *Policy) String() string {
	if p.empty() {
		return ""
	}
	return p.tree.String()
}

// Names goes through its metrics (P6).
func (p *Policy) Names() api.Seq[string] {
	if p.empty() {
		return each(nil)
	}
	return each(p.tree.Metrics)
}

// each goes through a list that nobody writes into any more, so it can be gone through again.
func each(list []string) api.Seq[string] {
	return func(yield func(string) bool) {
		for _, s := range list {
			if !yield(s) {
				return
			}
		}
	}
}

// Code compiles it (P10).
func (p *Policy) Code() []byte {
	if p.empty() {
		return nil
	}
	return bytecode.Write(p.tree)
}
