package scaler

import (
	"scaler/api"
	"scaler/bytecode"
)

// Program is code that was loaded.
type Program struct {
	loaded *bytecode.Loaded
	probes map[string]api.Probe
}

// Load checks code and binds its probes (P11).
func Load(code []byte, probes map[string]api.Probe) (*Program, error) {
	loaded, err := bytecode.Read(code)
	if err != nil {
		return nil, err
	}
	bound, err := bind(loaded.Probes, probes)
	if err != nil {
		return nil, err
	}
	return &Program{loaded, bound}, nil
}

// bind takes the probes that are called over to a map of the program's own: the caller may write into the other one.
func bind(calls []bytecode.Call, probes map[string]api.Probe) (map[string]api.Probe, error) {
	bound := make(map[string]api.Probe)
	for _, call := range calls {
		probe := probes[call.Name]
		if probe == nil {
			return nil, &api.NameError{Place: call.Place, Name: call.Name}
		}
		bound[call.Name] = probe
	}
	return bound, nil
}

// empty: a Load that fails gives a nil program, and no call may panic at what a call gave.
func (g *Program) empty() bool { return g == nil || g.loaded == nil }

// Names goes through the metrics of a program (P11).
func (g *Program) Names() api.Seq[string] {
	if g.empty() {
		return each(nil)
	}
	return each(g.loaded.Metrics)
}

// Eval works out the value (P12).
func (g *Program) Eval(look api.Look) (int64, error) {
	if g.empty() {
		return 0, api.ErrCode
	}
	return g.loaded.Value(bytecode.World{Look: look, Probes: g.probes})
}
