package tests

import (
	"fmt"
	"math"
	"slices"
	"testing"

	"loop.example/g01307/impl"
)

// Promise 1 for the functions of chapter 7: they return for all arguments, modify none, depend on nothing else, and return zero values with errors.

// circuitCalls calls all functions of one circuit and of some bits.
func circuitCalls(c impl.Circuit, bits uint16) []called {
	outputs, one := impl.RunCircuit(c, bits)
	values, two := impl.GateValues(c, bits)
	counts, three := impl.CountGates(c)
	depth, four := impl.DepthOf(c)
	trimmed, five := impl.TrimCircuit(c)
	merged, six := impl.MergeCircuit(c)
	needed, seven := impl.NeededGates(c)
	return []called{
		call("RunCircuit", outputs, one), call("GateValues", values, two), call("CountGates", counts, three), call("DepthOf", depth, four),
		call("TrimCircuit", trimmed, five), call("MergeCircuit", merged, six), call("NeededGates", needed, seven),
	}
}

// circuitNumberCalls calls all functions of one circuit and of numbers.
func circuitNumberCalls(c impl.Circuit, claim, level, gate int64) []called {
	flipped, code := impl.FlipGate(c, gate)
	return append(claimCalls(c, claim, level), call("FlipGate", flipped, code))
}

// alikeCalls compares two circuits both ways.
func alikeCalls(a, b impl.Circuit) []called {
	some, one := impl.AlikeCircuits(a, b)
	other, two := impl.AlikeCircuits(b, a)
	return []called{call("AlikeCircuits", some, one), call("AlikeCircuits", other, two)}
}

// ErrInvalid comes before all other errors, so there are numbers that are none, and circuits with too many inputs, too.
func TestInvalidCircuits(t *testing.T) {
	for _, c := range invalidCircuits() {
		list := slices.Concat(circuitCalls(c, 0), circuitCalls(c, 0xffff), alikeCalls(c, c))
		for _, numbers := range [][3]int64{{0, 0, 0}, {1, 2, 3}, {-1, 0, 0}, {0, -1, -1}, {2, 3, 1_000_000}, {math.MaxInt64, math.MinInt64, math.MaxInt64}} {
			list = append(list, circuitNumberCalls(c, numbers[0], numbers[1], numbers[2])...)
		}
		for _, other := range []impl.Circuit{{}, {Inputs: 10}, {Inputs: 11}, {Inputs: 16}, {Inputs: -1}, {Inputs: 1, Gates: []impl.Gate{{}}, Outputs: []int16{0}}} {
			list = append(list, alikeCalls(c, other)...)
		}
		for _, found := range list {
			found.wantCode(t, shortCircuit(c), impl.ErrInvalid)
		}
	}
}

// The circuit with nothing in it is each argument of each function, as it is, and with lists that have room.
func TestEmptyCircuit(t *testing.T) {
	for _, empty := range []impl.Circuit{{}, {Gates: []impl.Gate{}, Outputs: []int16{}}, {Gates: make([]impl.Gate, 0, 8), Outputs: make([]int16, 3)[:0]}} {
		for _, bits := range []uint16{0, 1, 0xffff} {
			wantCodes(t, "nothing", circuitCalls(empty, bits), nil)
			outputs, one := impl.RunCircuit(empty, bits)
			values, two := impl.GateValues(empty, bits)
			if outputs != 0 || len(values) != 0 || one+two != impl.OK {
				t.Errorf("nothing has the outputs %b and the values %v", outputs, values)
			}
		}
		counts, code := impl.CountGates(empty)
		wantNumber(t, "CountGates of nothing", counts, code, [4]int64{})
		depth, code := impl.DepthOf(empty)
		wantNumber(t, "DepthOf nothing", depth, code, 0)
		needed, code := impl.NeededGates(empty)
		if code != impl.OK || len(needed) != 0 {
			t.Errorf("NeededGates of nothing = %v, %d", needed, code)
		}
		trimmed, code := impl.TrimCircuit(empty)
		wantCircuit(t, "TrimCircuit of nothing", trimmed, code, impl.Circuit{})
		merged, code := impl.MergeCircuit(empty)
		wantCircuit(t, "MergeCircuit of nothing", merged, code, impl.Circuit{})
		for _, gate := range []int64{-1, 0, 1} {
			flipped, code := impl.FlipGate(empty, gate)
			call("FlipGate", flipped, code).wantCode(t, "nothing", impl.ErrRange)
		}
		for level := range int64(3) {
			for _, claim := range claims() {
				wantCodes(t, "nothing", claimCalls(empty, claim, level), map[string]int64{"FirstWrong": impl.ErrState})
				wantVerdict(t, empty, claim, level)
			}
		}
		alike, code := impl.AlikeCircuits(empty, impl.Circuit{})
		wantNumber(t, "AlikeCircuits of nothing and nothing", alike, code, true)
		for _, c := range plainCircuits() {
			same := c.Inputs == 0 && len(c.Outputs) == 0
			alike, code := impl.AlikeCircuits(empty, c)
			wantNumber(t, "AlikeCircuits of nothing and "+shortCircuit(c), alike, code, same)
			if c.Inputs <= 10 {
				alike, code = impl.AlikeCircuits(c, empty)
				wantNumber(t, "AlikeCircuits of "+shortCircuit(c)+" and nothing", alike, code, same)
			}
		}
		if !impl.ValidCircuit(empty) || !impl.SameCircuit(empty, impl.Circuit{}) || impl.CircuitText(empty) != "0\n\n\n" {
			t.Errorf("nothing has the text %q", impl.CircuitText(empty))
		}
	}
}

// circuitResults is the text of what all functions return for two circuits and for numbers.
func circuitResults(a, b impl.Circuit, bits uint16, number int64) string {
	text := fmt.Sprint(circuitCalls(a, bits), circuitCalls(b, ^bits), alikeCalls(a, b), alikeCalls(a, a), alikeCalls(b, b), impl.ValidCircuit(a), impl.SameCircuit(a, b), impl.CircuitText(a))
	for level := int64(-1); level < 4; level++ {
		text += fmt.Sprint(circuitNumberCalls(a, impl.ClPlus, level, number), circuitNumberCalls(b, impl.ClTimes, level, level))
		for _, m := range makers() {
			c, code := m.make(level)
			text += fmt.Sprint(c, code)
		}
	}
	back, code := impl.ReadCircuit(impl.CircuitText(a))
	return text + fmt.Sprint(back, code)
}

// mixedCircuits are some circuits that are valid, and some that are not.
func mixedCircuits() []impl.Circuit {
	list := []impl.Circuit{{Inputs: -1}, {Outputs: []int16{0}}, {Inputs: 3, Gates: []impl.Gate{{A: 3}}}, {Gates: []impl.Gate{{Kind: impl.GtXor}}}, {Gates: make([]impl.Gate, 601)}}
	for i, c := range someCircuits() {
		if i%7 == 0 && len(c.Gates) < 200 {
			list = append(list, c)
		}
	}
	plus, _ := impl.PlusCircuit(1)
	times, _ := impl.TimesCircuit(2)
	return append(list, plus, times)
}

// roomy has the same gates and outputs, and other ones in their unused capacity.
func roomy(c impl.Circuit) impl.Circuit {
	return impl.Circuit{Inputs: c.Inputs, Gates: withRoom(c.Gates, impl.Gate{Kind: 9, A: 9, B: 9}), Outputs: withRoom(c.Outputs, 99)}
}

// wholeText has all of a circuit, also its unused capacity.
func wholeText(c impl.Circuit) string {
	return fmt.Sprint(c.Inputs, len(c.Gates), len(c.Outputs), c.Gates[:cap(c.Gates)], c.Outputs[:cap(c.Outputs)])
}

func TestCircuitsAreNotModified(t *testing.T) {
	for i, a := range mixedCircuits() {
		for j, b := range mixedCircuits() {
			if (i+j)%3 != 0 && i != j {
				continue
			}
			first, second := roomy(a), roomy(b)
			before := wholeText(first) + wholeText(second)
			got := circuitResults(first, second, 0x5a5a, int64(i))
			if after := wholeText(first) + wholeText(second); after != before {
				t.Errorf("%s became %s", before, after)
			}
			if again := circuitResults(first, second, 0x5a5a, int64(i)); again != got {
				t.Errorf("%s and %s have other results the second time", shortCircuit(a), shortCircuit(b))
			}
			clipped := impl.Circuit{Inputs: a.Inputs, Gates: slices.Clip(slices.Clone(a.Gates)), Outputs: slices.Clip(slices.Clone(a.Outputs))}
			if other := circuitResults(clipped, copyCircuit(b), 0x5a5a, int64(i)); other != got {
				t.Errorf("%s and %s have other results with unused capacity", shortCircuit(a), shortCircuit(b))
			}
		}
	}
}

func TestNilAndEmptyCircuitsAreEquivalent(t *testing.T) {
	for inputs := range int8(17) {
		one := []impl.Gate{{Kind: impl.GtOne}}
		for _, pair := range [][2]impl.Circuit{
			{{Inputs: inputs}, {Inputs: inputs, Gates: []impl.Gate{}, Outputs: []int16{}}},
			{{Inputs: inputs, Gates: one}, {Inputs: inputs, Gates: one, Outputs: []int16{}}},
			{{Inputs: inputs, Outputs: []int16{0}}, {Inputs: inputs, Gates: []impl.Gate{}, Outputs: []int16{0}}},
		} {
			for _, other := range []impl.Circuit{{}, {Inputs: inputs, Gates: one, Outputs: []int16{0}}} {
				if a, b := circuitResults(pair[0], other, 1, 0), circuitResults(pair[1], other, 1, 0); a != b {
					t.Errorf("nil: %s, empty: %s", a, b)
				}
				if a, b := circuitResults(other, pair[0], 1, 0), circuitResults(other, pair[1], 1, 0); a != b {
					t.Errorf("nil: %s, empty: %s", a, b)
				}
			}
		}
	}
}

func TestEqualCircuitsHaveEqualResultsAtOnce(t *testing.T) {
	wantSameAtOnce(t, func() string {
		text := ""
		list := mixedCircuits()
		for i, a := range list {
			text += circuitResults(a, list[(i*5+1)%len(list)], uint16(i*4321), int64(i))
		}
		return text
	})
}

// circuitsFrom calls all functions that return circuits, and has their results.
func circuitsFrom(c impl.Circuit, gate int64) map[string]impl.Circuit {
	results := map[string]impl.Circuit{}
	for _, m := range makers() {
		for level := range int64(4) {
			results[fmt.Sprint(m.name, level)], _ = m.make(level)
		}
	}
	results["TrimCircuit"], _ = impl.TrimCircuit(c)
	results["MergeCircuit"], _ = impl.MergeCircuit(c)
	results["FlipGate"], _ = impl.FlipGate(c, gate)
	results["ReadCircuit"], _ = impl.ReadCircuit(impl.CircuitText(c))
	return results
}

// spoilGates overwrites gates and their unused capacity.
func spoilGates(c impl.Circuit) {
	gates := c.Gates[:cap(c.Gates)]
	for i := range gates {
		gates[i] = impl.Gate{Kind: 7, A: 777, B: 777}
	}
}

// spoilOutputs overwrites outputs and their unused capacity.
func spoilOutputs(c impl.Circuit) {
	outputs := c.Outputs[:cap(c.Outputs)]
	for i := range outputs {
		outputs[i] = 888
	}
}

// Gates and outputs of each result are overwritten, one after the other, and then looked for in the argument, in all other results,
// and in the other one of both.
func TestReturnedCircuitsAreNew(t *testing.T) {
	for _, c := range append(mixedCircuits()[5:], circuitOf(t, "2\ni0 i1 0^1\n2\n"), circuitOf(t, "1\ni0 0^0\n0 1\n")) {
		argument := roomy(c)
		gate := int64(len(c.Gates) - 1)
		want := map[string]string{}
		results := circuitsFrom(argument, gate)
		for name, result := range results {
			want[name] = fmt.Sprint(result)
		}
		before := wholeText(argument)
		for name, result := range results {
			outputs := fmt.Sprint(result.Outputs)
			spoilGates(result)
			if fmt.Sprint(result.Outputs) != outputs {
				t.Errorf("the gates of %s of %s share memory with its outputs", name, shortCircuit(c))
			}
			spoilOutputs(result)
			delete(results, name)
			for other, rest := range results {
				if fmt.Sprint(rest) != want[other] {
					t.Errorf("a change of %s of %s changed %s", name, shortCircuit(c), other)
				}
			}
			if wholeText(argument) != before {
				t.Fatalf("a change of %s of %s changed the circuit", name, shortCircuit(c))
			}
		}
		again := circuitsFrom(argument, gate)
		spoilGates(argument)
		spoilOutputs(argument)
		for name, result := range again {
			if fmt.Sprint(result) != want[name] {
				t.Errorf("%s of %s differs after a change of the first one, or of the circuit", name, shortCircuit(c))
			}
		}
	}
}

func TestReturnedListsOfCircuitsAreNew(t *testing.T) {
	for _, c := range mixedCircuits() {
		wantNew(t, "GateValues", func() []bool { list, _ := impl.GateValues(c, 0x5a5a); return list })
		wantNew(t, "NeededGates", func() []int64 { list, _ := impl.NeededGates(c); return list })
	}
}

func TestGreatCircuits(t *testing.T) {
	const length = 1_000_000
	gates, outputs := slices.Repeat([]impl.Gate{{Kind: impl.GtOne}}, length), make([]int16, length)
	for _, c := range []impl.Circuit{{Gates: gates}, {Outputs: outputs}, {Gates: gates[:length/2], Outputs: outputs[:length/2]}, {Inputs: 127, Gates: gates[:1], Outputs: outputs}, {Gates: make([]impl.Gate, length)}} {
		list := slices.Concat(circuitCalls(c, 1), circuitNumberCalls(c, 0, 0, length-1), circuitNumberCalls(c, -1, -1, -1), alikeCalls(c, impl.Circuit{}), alikeCalls(c, c))
		for _, found := range list {
			found.wantCode(t, shortCircuit(c), impl.ErrInvalid)
		}
		if impl.ValidCircuit(c) || impl.CircuitText(c) != "" {
			t.Errorf("ValidCircuit of %s is true, or there is a text", shortCircuit(c))
		}
		other := copyCircuit(c)
		if !impl.SameCircuit(c, other) {
			t.Errorf("SameCircuit of equal great circuits is false")
		}
		if last := len(other.Gates) - 1; last > 0 {
			other.Gates[last].B = 1
		} else {
			other.Outputs[len(other.Outputs)-1] = 1
		}
		if impl.SameCircuit(c, other) {
			t.Errorf("SameCircuit of different great circuits is true")
		}
	}
	for _, c := range greatCircuits() {
		wantCodes(t, shortCircuit(c), circuitCalls(c, 0x1234), nil)
	}
}
