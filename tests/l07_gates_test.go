package tests

import (
	"fmt"
	"slices"
	"testing"

	"loop.example/g01307/impl"
)

// Gates, which are on or off, as the promises 16 and 17 need them.

func TestValidCircuits(t *testing.T) {
	for _, c := range manyCircuits() {
		if !impl.ValidCircuit(c) {
			t.Errorf("ValidCircuit of %s is false", shortCircuit(c))
		}
	}
	for _, c := range invalidCircuits() {
		if impl.ValidCircuit(c) {
			t.Errorf("ValidCircuit of %s is true", shortCircuit(c))
		}
	}
}

// All circuits with at most two gates whose numbers are small, and not too few.
func TestValidCircuitsByDefinition(t *testing.T) {
	var gates []impl.Gate
	for kind := int8(-1); kind <= 4; kind++ {
		for a := int16(-1); a <= 2; a++ {
			for b := int16(-1); b <= 2; b++ {
				gates = append(gates, impl.Gate{Kind: kind, A: a, B: b})
			}
		}
	}
	lists := [][]impl.Gate{nil}
	for _, g := range gates {
		lists = append(lists, []impl.Gate{g})
		for _, next := range gates {
			lists = append(lists, []impl.Gate{g, next})
		}
	}
	valid := 0
	for _, list := range lists {
		for inputs := int8(-1); inputs <= 2; inputs++ {
			for _, outputs := range [][]int16{nil, {-1}, {0}, {1}, {2}} {
				c := impl.Circuit{Inputs: inputs, Gates: list, Outputs: outputs}
				if got := impl.ValidCircuit(c); got != isCircuit(c) {
					t.Fatalf("ValidCircuit of %s is %v", shortCircuit(c), got)
				} else if got {
					valid++
				}
			}
		}
	}
	if valid < 50 {
		t.Errorf("only %d circuits are valid: the test shows little", valid)
	}
}

func TestCircuitLimits(t *testing.T) {
	one := impl.Gate{Kind: impl.GtOne}
	for inputs := -128; inputs <= 127; inputs++ {
		c := impl.Circuit{Inputs: int8(inputs), Gates: []impl.Gate{one}}
		if got := impl.ValidCircuit(c); got != (inputs >= 0 && inputs <= impl.MaxInputs) {
			t.Errorf("ValidCircuit with %d inputs is %v", inputs, got)
		}
		for a := -1; a <= 17; a++ {
			c.Gates = []impl.Gate{{A: int16(a)}}
			if got := impl.ValidCircuit(c); got != isCircuit(c) {
				t.Errorf("ValidCircuit with %d inputs and the input %d is %v", inputs, a, got)
			}
		}
	}
	for _, gates := range []int{0, 1, 599, impl.MaxGates, impl.MaxGates + 1, 602, 1200, 65536} {
		c := impl.Circuit{Gates: slices.Repeat([]impl.Gate{one}, gates)}
		if got := impl.ValidCircuit(c); got != (gates <= 600) {
			t.Errorf("ValidCircuit with %d gates is %v", gates, got)
		}
	}
	for _, outputs := range []int{0, 1, 15, impl.MaxOutputs, impl.MaxOutputs + 1, 18, 256, 65536} {
		c := impl.Circuit{Gates: []impl.Gate{one}, Outputs: make([]int16, outputs)}
		if got := impl.ValidCircuit(c); got != (outputs <= 16) {
			t.Errorf("ValidCircuit with %d outputs is %v", outputs, got)
		}
	}
}

func TestSameCircuit(t *testing.T) {
	lists := append(plainCircuits(), invalidCircuits()...)
	base := impl.Circuit{Inputs: 2, Gates: []impl.Gate{{A: 0}, {Kind: impl.GtXor}}, Outputs: []int16{1, 0}}
	lists = append(lists, base, withGate(base, 1, impl.Gate{Kind: impl.GtAnd}), withGate(base, 1, impl.Gate{Kind: impl.GtXor, A: 1}), withGate(base, 1, impl.Gate{Kind: impl.GtXor, B: 1}),
		impl.Circuit{Inputs: 3, Gates: base.Gates, Outputs: base.Outputs}, impl.Circuit{Inputs: 2, Gates: base.Gates, Outputs: []int16{0, 1}}, impl.Circuit{Inputs: 2, Gates: base.Gates, Outputs: []int16{1}},
		impl.Circuit{Inputs: 2, Gates: base.Gates}, impl.Circuit{Inputs: 2, Gates: base.Gates[:1], Outputs: base.Outputs}, impl.Circuit{Inputs: 2, Outputs: base.Outputs})
	for i, a := range lists {
		for j, b := range lists {
			same := a.Inputs == b.Inputs && len(a.Gates) == len(b.Gates) && len(a.Outputs) == len(b.Outputs)
			for k := 0; same && k < len(a.Gates); k++ {
				same = a.Gates[k] == b.Gates[k]
			}
			for k := 0; same && k < len(a.Outputs); k++ {
				same = a.Outputs[k] == b.Outputs[k]
			}
			if got := impl.SameCircuit(a, b); got != same {
				t.Errorf("SameCircuit of the circuits %d and %d, %s and %s, is %v", i, j, shortCircuit(a), shortCircuit(b), got)
			}
		}
	}
	if !impl.SameCircuit(impl.Circuit{}, impl.Circuit{Gates: []impl.Gate{}, Outputs: []int16{}}) || !impl.SameCircuit(base, copyCircuit(base)) {
		t.Errorf("SameCircuit of equal circuits is false")
	}
}

// checkRuns compares runs with the inputs for which gates are on; with many inputs, only some are tried.
func checkRuns(t *testing.T, c impl.Circuit) {
	t.Helper()
	on := truthOf(c)
	step := max(1, inputCount(c)*len(c.Gates)/100_000)
	for bits := 0; bits < inputCount(c); bits += step {
		outputs, code := impl.RunCircuit(c, uint16(bits))
		if want := on.outputsFor(c, bits); code != impl.OK || outputs != want {
			t.Fatalf("RunCircuit of %s with %b = %b, %d, want %b", shortCircuit(c), bits, outputs, code, want)
		}
		values, code := impl.GateValues(c, uint16(bits))
		if code != impl.OK || len(values) != len(c.Gates) {
			t.Fatalf("GateValues of %s with %b = %v, %d", shortCircuit(c), bits, values, code)
		}
		for i, value := range values {
			if value != (on[i].Bit(bits) == 1) {
				t.Fatalf("GateValues of %s with %b: the gate %d is %v", shortCircuit(c), bits, i, value)
			}
		}
	}
}

func TestRunsOfCircuits(t *testing.T) {
	for _, c := range manyCircuits() {
		checkRuns(t, c)
	}
}

// Bits from Inputs on are not looked at.
func TestBitsBehindTheLastInput(t *testing.T) {
	for _, c := range someCircuits() {
		for _, low := range []uint16{0, 1, 0b1010_0101_1100_0011, 0xffff} {
			low &= uint16(inputCount(c) - 1)
			want, one := impl.RunCircuit(c, low)
			wantValues, two := impl.GateValues(c, low)
			for bit := int(c.Inputs); bit < 16; bit++ {
				for _, bits := range []uint16{low | 1<<bit, low | 0xffff<<bit} {
					if got, code := impl.RunCircuit(c, bits); got != want || code != impl.OK || one != impl.OK {
						t.Errorf("RunCircuit of %s with %b = %b, with %b it is %b", shortCircuit(c), low, want, bits, got)
					}
					if got, code := impl.GateValues(c, bits); !slices.Equal(got, wantValues) || code != impl.OK || two != impl.OK {
						t.Errorf("GateValues of %s differ for %b and %b", shortCircuit(c), low, bits)
					}
				}
			}
		}
	}
}

func TestRunsByHand(t *testing.T) {
	c := circuitOf(t, "3\ni2 1 i0 0^1 0&2 3^3 4&4 1^1 1&1\n0 1 2 3 4 5 6 7 8 0\n")
	for bits, want := range map[uint16]uint16{
		0b000: 0b01_0000_1010, 0b001: 0b01_0000_1110, 0b010: 0b01_0000_1010, 0b100: 0b11_0000_0011, 0b101: 0b11_0101_0111, 0b111: 0b11_0101_0111, 0b1000: 0b01_0000_1010,
	} {
		got, code := impl.RunCircuit(c, bits)
		wantNumber(t, fmt.Sprintf("RunCircuit with %b", bits), got, code, want)
	}
	values, code := impl.GateValues(c, 0b101)
	if want := []bool{true, true, true, false, true, false, true, false, true}; code != impl.OK || !slices.Equal(values, want) {
		t.Errorf("GateValues = %v, %d, want %v", values, code, want)
	}
	all := circuitOf(t, "16\ni15 i0\n0 1 0 1 0 1 0 1 0 1 0 1 0 1 0 0\n")
	for bits, want := range map[uint16]uint16{0: 0, 1: 0b0010_1010_1010_1010, 1 << 15: 0b1101_0101_0101_0101, 1<<15 | 1: 0xffff, 0x7ffe: 0} {
		got, code := impl.RunCircuit(all, bits)
		wantNumber(t, fmt.Sprintf("RunCircuit with 16 outputs and %b", bits), got, code, want)
	}
}

func TestCountsAndDepths(t *testing.T) {
	for _, c := range manyCircuits() {
		var want [4]int64
		for kind := range want {
			for _, g := range c.Gates {
				if g.Kind == int8(kind) {
					want[kind]++
				}
			}
		}
		counts, code := impl.CountGates(c)
		wantNumber(t, "CountGates of "+shortCircuit(c), counts, code, want)
		depth, code := impl.DepthOf(c)
		wantNumber(t, "DepthOf "+shortCircuit(c), depth, code, depthBySteps(c))
	}
}

func TestDepthsByHand(t *testing.T) {
	for text, want := range map[string]int64{
		"0\n\n\n": 0, "0\n1\n\n": 0, "0\n1\n0\n": 0, "1\ni0\n0 0\n": 0, "1\ni0 0^0\n\n": 0, "1\ni0 0^0\n0\n": 0, "1\ni0 0^0\n1\n": 1, "1\ni0 0^0\n1 0\n": 1, "1\ni0 0^0\n0 1\n": 1,
		"1\ni0 1 0&1 2&0 0&3\n4\n": 3, "1\ni0 1 0&1 2&0 0&3\n2\n": 1, "1\ni0 1 0&1 2&0 0&1\n4\n": 1, "1\ni0 1 0&1 2&0 0&1\n4 3 4\n": 2,
	} {
		depth, code := impl.DepthOf(circuitOf(t, text))
		wantNumber(t, fmt.Sprintf("DepthOf %q", text), depth, code, want)
	}
	for gates := 1; gates <= 600; gates += 37 {
		for _, kind := range []int8{impl.GtXor, impl.GtAnd} {
			depth, code := impl.DepthOf(chain(gates, kind))
			wantNumber(t, fmt.Sprint("DepthOf a chain of ", gates), depth, code, int64(gates-1))
		}
	}
}
