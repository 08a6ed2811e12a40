package bytecode

import (
	"bytes"
	"slices"
	"strings"
	"testing"

	"scaler/api"
	"scaler/syntax"
)

func written(t *testing.T, src string) []byte {
	t.Helper()
	tree, err := syntax.Read(src)
	if err != nil {
		t.Fatalf("P4: %q: %v", src, err)
	}
	return Write(tree)
}

func TestP11Read(t *testing.T) {
	loaded, err := Read(written(t, "f(sum(b,1),g()) ? last(a,2) : f()/most(b,3)"))
	if err != nil {
		t.Fatalf("P11: %v", err)
	}
	if !slices.Equal(loaded.Metrics, []string{"b", "a"}) {
		t.Errorf("P11: the metrics are %q", loaded.Metrics)
	}
	if want := []Span{{"b", 1}, {"a", 2}, {"b", 3}}; !slices.Equal(loaded.Spans, want) {
		t.Errorf("P11: the spans are %v, want %v", loaded.Spans, want)
	}
	want := []Call{{api.Place{At: 0}, "f"}, {api.Place{At: 11}, "g"}, {api.Place{At: 30}, "f"}}
	if !slices.Equal(loaded.Probes, want) {
		t.Errorf("P11: the probes are %v, want %v", loaded.Probes, want)
	}
}

func TestP11EveryPolicyLoads(t *testing.T) {
	for _, src := range []string{
		strings.Repeat("-", 199) + "1",
		"10" + strings.Repeat("+1", 99),
		"10" + strings.Repeat("/1", 99),
		"f(" + strings.Repeat("1,", 98) + "1)",
		strings.Repeat("(", 99) + "12" + strings.Repeat(")", 99),
		strings.Repeat("1?2:", 49) + "1234",
		strings.Repeat(" ", 192) + "sum(a,1)",
		strings.Repeat(" ", 197) + "f()",
		"sum(" + strings.Repeat("𝒳", 12) + ",999999999)+" + strings.Repeat("𝒳", 12) + "()",
	} {
		if _, err := Read(written(t, src)); err != nil {
			t.Errorf("P11: the code of %q: %v", src, err)
		}
	}
}

func TestP11WrongCode(t *testing.T) {
	for what, code := range map[string][]byte{
		"no bytes":                  nil,
		"an unknown part":           {0},
		"a number cut off":          {opNumber, 0, 0, 1},
		"a number of 10 digits":     {opNumber, 0x3b, 0x9a, 0xca, 0x00},
		"bytes behind the end":      {opNumber, 0, 0, 0, 1, 0},
		"two policies":              {opNumber, 0, 0, 0, 1, opNumber, 0, 0, 0, 1},
		"a minus of nothing":        {opMinus},
		"a sum of one":              {'+', opNumber, 0, 0, 0, 1},
		"a choice of two":           {opChoice, opNumber, 0, 0, 0, 1, opNumber, 0, 0, 0, 1},
		"a quotient far out":        {opDivide, api.MaxText, opNumber, 0, 0, 0, 1, opNumber, 0, 0, 0, 1},
		"a measure far out":         append([]byte{opMeasure, api.MaxText}, "\x03sum\x01a\x00\x00\x00\x01"...),
		"a measure of no kind":      append([]byte{opMeasure, 0}, "\x04summ\x01a\x00\x00\x00\x01"...),
		"a measure of no metric":    append([]byte{opMeasure, 0}, "\x03sum\x00\x00\x00\x00\x01"...),
		"a measure of a wrong name": append([]byte{opMeasure, 0}, "\x03sum\x021a\x00\x00\x00\x01"...),
		"a measure of a long name":  append([]byte{opMeasure, 0}, "\x03sum\x0dabcdefghijklm\x00\x00\x00\x01"...),
		"a measure too wide":        append([]byte{opMeasure, 0}, "\x03sum\x01a\xff\xff\xff\xff"...),
		"a measure cut off":         append([]byte{opMeasure, 0}, "\x03sum\x01a\x00\x00\x00"...),
		"a probe far out":           append([]byte{opProbe, api.MaxText}, "\x01f\x00"...),
		"a probe of a kind's name":  append([]byte{opProbe, 0}, "\x03sum\x00"...),
		"a probe of a wrong name":   append([]byte{opProbe, 0}, "\x02f(\x00"...),
		"a probe not of UTF-8":      append([]byte{opProbe, 0}, "\x02f\xff\x00"...),
		"a probe of a cut name":     append([]byte{opProbe, 0}, "\x09f\x00"...),
		"a probe without its count": append([]byte{opProbe, 0}, "\x01f"...),
		"a probe without arguments": append([]byte{opProbe, 0}, "\x01f\x02n\x00\x00\x00\x01"...),
		"more parts than bytes":     append(bytes.Repeat([]byte{opMinus}, api.MaxText), opNumber, 0, 0, 0, 1),
	} {
		if loaded, err := Read(code); loaded != nil || err != api.ErrCode {
			t.Errorf("P11: %s: %v, %v, want ErrCode", what, loaded, err)
		}
	}
}

func TestP2CodeIsNotKept(t *testing.T) {
	code := written(t, "sum(größe,1)+f()")
	loaded, err := Read(code)
	if err != nil {
		t.Fatal(err)
	}
	clear(code)
	if loaded.Metrics[0] != "größe" || loaded.Probes[0].Name != "f" {
		t.Errorf("P2: behind a change of the bytes: %q, %v", loaded.Metrics, loaded.Probes)
	}
}
