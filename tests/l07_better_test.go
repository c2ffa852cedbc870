package tests

import (
	"fmt"
	"math"
	"slices"
	"testing"

	"loop.example/g01307/impl"
)

// Promise 17: trimmed and merged circuits have the same outputs, and no more gates; a gate that is flipped twice is as it was.

func TestNeededGates(t *testing.T) {
	for _, c := range manyCircuits() {
		needed, code := impl.NeededGates(c)
		if want := neededBySearch(c); code != impl.OK || !slices.Equal(needed, want) {
			t.Errorf("NeededGates of %s = %v, %d, want %v", shortCircuit(c), needed, code, want)
		}
	}
}

func TestNeededGatesByHand(t *testing.T) {
	for text, want := range map[string][]int64{
		"0\n\n\n":                             nil,
		"2\ni0 i1 0^1\n\n":                    nil,
		"2\ni0 i1 0^1\n2\n":                   {0, 1, 2},
		"2\ni0 i1 0^1\n0\n":                   {0},
		"2\ni0 i1 0^1\n1 1\n":                 {1},
		"2\ni0 i1 1^1\n2\n":                   {1, 2},
		"2\ni0 i1 0&0 1 1&1\n2 4\n":           {0, 1, 2, 4},
		"2\ni0 i1 0&0 1 1&1\n4 3\n":           {1, 3, 4},
		"1\ni0 1\n1\n":                        {1}, // GtOne has no gate, not even that with the index 0
		"3\n1 i0 i2\n2 1\n":                   {1, 2},
		"3\n1 i1 i2\n2\n":                     {2}, // the input 2 is no gate 2, nor the input 1 a gate 1
		"2\ni0 i1 0^1 2^2 3^3 4^4 0&1\n5 1\n": {0, 1, 2, 3, 4, 5},
		"2\ni0 i1 0^1 2^2 3^3 4^4 0&1\n6\n":   {0, 1, 6},
	} {
		needed, code := impl.NeededGates(circuitOf(t, text))
		if code != impl.OK || !slices.Equal(needed, want) {
			t.Errorf("NeededGates of %q = %v, %d, want %v", text, needed, code, want)
		}
	}
}

// checkNoMore checks that a circuit is as good as another one, and has no more gates.
func checkNoMore(t *testing.T, name string, got, c impl.Circuit) {
	t.Helper()
	if !isCircuit(got) || len(got.Gates) > len(c.Gates) || !sameTruth(got, c) {
		t.Errorf("%s of %s = %s", name, shortCircuit(c), shortCircuit(got))
		return
	}
	if c.Inputs > 10 {
		return
	}
	for _, pair := range [][2]impl.Circuit{{got, c}, {c, got}} {
		alike, code := impl.AlikeCircuits(pair[0], pair[1])
		wantNumber(t, "AlikeCircuits of "+name+" and "+shortCircuit(c), alike, code, true)
	}
}

func TestTrimmedCircuits(t *testing.T) {
	less := 0
	for _, c := range manyCircuits() {
		trimmed, code := impl.TrimCircuit(c)
		wantCircuit(t, "TrimCircuit of "+shortCircuit(c), trimmed, code, trimmedBySearch(c))
		checkNoMore(t, "TrimCircuit", trimmed, c)
		if len(trimmed.Gates) < len(c.Gates) {
			less++
		}
		needed, code := impl.NeededGates(trimmed)
		if code != impl.OK || len(needed) != len(trimmed.Gates) {
			t.Errorf("only %d gates of TrimCircuit of %s are needed", len(needed), shortCircuit(c))
		}
		again, code := impl.TrimCircuit(trimmed)
		wantCircuit(t, "TrimCircuit twice of "+shortCircuit(c), again, code, trimmed)
	}
	if less < 1000 {
		t.Errorf("only %d circuits have less gates when they are trimmed: the test shows little", less)
	}
}

func TestMergedCircuits(t *testing.T) {
	less := 0
	for _, c := range manyCircuits() {
		merged, code := impl.MergeCircuit(c)
		wantCircuit(t, "MergeCircuit of "+shortCircuit(c), merged, code, mergedBySearch(c))
		checkNoMore(t, "MergeCircuit", merged, c)
		if len(merged.Gates) < len(c.Gates) {
			less++
		}
		again, code := impl.MergeCircuit(merged)
		wantCircuit(t, "MergeCircuit twice of "+shortCircuit(c), again, code, merged)
	}
	if less < 1000 {
		t.Errorf("only %d circuits have less gates when they are merged: the test shows little", less)
	}
}

// Both are done, in either order.
func TestTrimmedAndMergedCircuits(t *testing.T) {
	for _, c := range manyCircuits() {
		trimmed, one := impl.TrimCircuit(c)
		both, two := impl.MergeCircuit(trimmed)
		merged, three := impl.MergeCircuit(c)
		other, four := impl.TrimCircuit(merged)
		if one+two+three+four != impl.OK {
			t.Errorf("%s is refused", shortCircuit(c))
		}
		checkNoMore(t, "MergeCircuit of TrimCircuit", both, c)
		checkNoMore(t, "TrimCircuit of MergeCircuit", other, c)
	}
}

func TestTrimmedByHand(t *testing.T) {
	for text, want := range map[string]string{
		"0\n\n\n":                           "0\n\n\n",
		"16\n\n\n":                          "16\n\n\n",
		"2\ni0 i1 0^1\n\n":                  "2\n\n\n",
		"2\ni0 i1 0^1\n1\n":                 "2\ni1\n0\n",
		"2\ni0 i1 0^1\n1 1 2 1\n":           "2\ni0 i1 0^1\n1 1 2 1\n",
		"3\ni0 1 i2 2&2 2^3 1^2 4&3\n6 2\n": "3\ni2 0&0 0^1 2&1\n3 0\n",
		"3\n1 i2 i2 1&2 2^1 3^3\n4 4\n":     "3\ni2 i2 1^0\n2 2\n", // gates that are equal stay, and A and B are not exchanged
		"3\n1 i1 1\n2 1\n":                  "3\ni1 1\n1 0\n",
	} {
		trimmed, code := impl.TrimCircuit(circuitOf(t, text))
		if got := circuitText(trimmed); code != impl.OK || got != want {
			t.Errorf("TrimCircuit of %q = %q, %d, want %q", text, got, code, want)
		}
	}
}

func TestMergedByHand(t *testing.T) {
	for text, want := range map[string]string{
		"0\n\n\n":                                "0\n\n\n",
		"16\n\n\n":                               "16\n\n\n",
		"1\ni0 i0\n1 0\n":                        "1\ni0\n0 0\n",
		"0\n1 1 1\n2 1 2\n":                      "0\n1\n0 0 0\n",
		"2\ni1 i0 i1\n2 1 0\n":                   "2\ni1 i0\n0 1 0\n",
		"2\ni0 i1 0^1 0&1\n2 3\n":                "2\ni0 i1 0^1 0&1\n2 3\n",
		"2\ni0 i1 1^0\n2\n":                      "2\ni0 i1 0^1\n2\n", // exchanged, though there is no equal one
		"2\ni0 i1 0^1 1^0 1&0 0&1\n3 2 5 4\n":    "2\ni0 i1 0^1 0&1\n2 2 3 3\n",
		"2\ni0 i0 i1 0&2 1&2 2&1 3^4\n6 5\n":     "2\ni0 i1 0&1 2^2\n3 2\n", // equal once they are renumbered
		"2\ni0 i1 i0 1 1 2^4 3^0 6&5 5&6\n8 7\n": "2\ni0 i1 1 0^2 3&3\n4 4\n",
		"3\ni2 i1 0^0 1^1\n3 2\n":                "3\ni2 i1 0^0 1^1\n3 2\n",
		"3\n1 i1 i0 1\n0 3\n":                    "3\n1 i1 i0\n0 0\n", // gates that nothing needs stay
		"5\n1 i4 i0 i4 i0 2^3 4^1\n5 6\n":        "5\n1 i4 i0 1^2\n3 3\n",
	} {
		merged, code := impl.MergeCircuit(circuitOf(t, text))
		if got := circuitText(merged); code != impl.OK || got != want {
			t.Errorf("MergeCircuit of %q = %q, %d, want %q", text, got, code, want)
		}
	}
}

func TestFlippedGates(t *testing.T) {
	for _, c := range manyCircuits() {
		for at, g := range c.Gates {
			flipped, code := impl.FlipGate(c, int64(at))
			if len(joined(g)) == 0 {
				call("FlipGate", flipped, code).wantCode(t, fmt.Sprint(shortCircuit(c), " and the gate ", at), impl.ErrState)
				continue
			}
			other := g
			other.Kind = impl.GtXor + impl.GtAnd - g.Kind
			if len(c.Gates) < 100 || at%97 == 0 {
				wantCircuit(t, fmt.Sprint("FlipGate of ", shortCircuit(c), " and the gate ", at), flipped, code, withGate(c, at, other))
				back, code := impl.FlipGate(flipped, int64(at))
				wantCircuit(t, fmt.Sprint("FlipGate twice of ", shortCircuit(c), " and the gate ", at), back, code, c)
			}
		}
		for _, none := range []int64{math.MinInt64, -1 << 32, -600, -1, int64(len(c.Gates)), int64(len(c.Gates)) + 1, 600, 65536, 1 << 32, 1<<32 + 2, math.MaxInt64} {
			flipped, code := impl.FlipGate(c, none)
			call("FlipGate", flipped, code).wantCode(t, fmt.Sprint(shortCircuit(c), " and the gate ", none), impl.ErrRange)
		}
	}
}

// A circuit of the same size is another one if a gate that matters is flipped.
func TestFlippedGatesOfProductsAreFound(t *testing.T) {
	for level := range int64(3) {
		for _, name := range pairMakers() {
			c := made(t, name, level)
			for at := int(c.Inputs); at < len(c.Gates); at++ {
				flipped, code := impl.FlipGate(c, int64(at))
				if code != impl.OK {
					t.Fatalf("FlipGate of %s(%d) and %d has the code %d", name, level, at, code)
				}
				same := sameTruth(c, flipped)
				alike, code := impl.AlikeCircuits(c, flipped)
				wantNumber(t, fmt.Sprint("AlikeCircuits of ", name, level, " and the one with ", at, " flipped"), alike, code, same)
				wantVerdict(t, flipped, claimOf(name), level)
			}
		}
	}
}

// withInputs has the same gates and outputs, and more inputs, perhaps.
func withInputs(c impl.Circuit, inputs int) impl.Circuit {
	return impl.Circuit{Inputs: int8(inputs), Gates: c.Gates, Outputs: c.Outputs}
}

func TestAlikeCircuits(t *testing.T) {
	small := allCircuits(2, 3)
	for _, a := range small {
		for _, b := range small {
			alike, code := impl.AlikeCircuits(a, b)
			wantNumber(t, "AlikeCircuits of "+shortCircuit(a)+" and "+shortCircuit(b), alike, code, sameTruth(a, b))
		}
	}
	d := dice(710)
	same := 0
	for range 1500 {
		inputs, outputs := d.next(5), d.next(3)
		a, b := d.circuit(inputs, 8, outputs), d.circuit(inputs, 8, outputs)
		alike, code := impl.AlikeCircuits(a, b)
		wantNumber(t, "AlikeCircuits of "+shortCircuit(a)+" and "+shortCircuit(b), alike, code, sameTruth(a, b))
		if alike {
			same++
		}
	}
	if same < 100 || same > 1400 {
		t.Errorf("%d pairs are alike: the test shows little", same)
	}
}

func TestCircuitsOfOtherSizesAreNotAlike(t *testing.T) {
	base := circuitOf(t, "2\ni0 i1 0&1\n2 0\n")
	for inputs := 2; inputs <= 16; inputs++ {
		alike, code := impl.AlikeCircuits(base, withInputs(base, inputs))
		wantNumber(t, fmt.Sprint("AlikeCircuits with 2 and ", inputs, " inputs"), alike, code, inputs == 2)
		if inputs <= 10 {
			alike, code = impl.AlikeCircuits(withInputs(base, inputs), base)
			wantNumber(t, fmt.Sprint("AlikeCircuits with ", inputs, " and 2 inputs"), alike, code, inputs == 2)
		}
	}
	for _, outputs := range [][]int16{nil, {2}, {2, 0, 0}, {2, 0, 2}, {2, 0, 1}, {0, 2}, slices.Repeat([]int16{2, 0}, 8)} {
		other := impl.Circuit{Inputs: 2, Gates: base.Gates, Outputs: outputs}
		for _, pair := range [][2]impl.Circuit{{base, other}, {other, base}} {
			alike, code := impl.AlikeCircuits(pair[0], pair[1])
			wantNumber(t, fmt.Sprint("AlikeCircuits with the outputs ", outputs), alike, code, false)
		}
	}
}

// An output that is never on counts, too.
func TestOutputsThatAreNeverOn(t *testing.T) {
	for inputs := range 11 {
		for outputs := range 16 {
			c := circuitOf(t, fmt.Sprint(inputs, "\n1 0^0\n\n"))
			c.Outputs = append(make([]int16, outputs), 1)
			less := impl.Circuit{Inputs: c.Inputs, Gates: c.Gates, Outputs: c.Outputs[:outputs]}
			for _, pair := range [][2]impl.Circuit{{c, less}, {less, c}} {
				alike, code := impl.AlikeCircuits(pair[0], pair[1])
				wantNumber(t, fmt.Sprint("AlikeCircuits of ", inputs, " inputs, with an output that is never on, and without it"), alike, code, false)
			}
		}
	}
}

// meeting is on only if all inputs are.
func meeting(inputs int) impl.Circuit {
	d := drawingOf(inputs)
	d.gates = append(d.gates, impl.Gate{Kind: impl.GtOne})
	for i := range inputs {
		d.gates = append(d.gates, impl.Gate{Kind: impl.GtAnd, A: int16(i), B: int16(len(d.gates) - 1)})
	}
	return d.circuit(inputs, []int16{int16(len(d.gates) - 1)})
}

// silence is on only if no input is.
func silence(inputs int) impl.Circuit {
	d := drawingOf(inputs)
	d.gates = append(d.gates, impl.Gate{Kind: impl.GtOne})
	one := int16(inputs)
	last := one
	for i := range inputs {
		d.gates = append(d.gates, impl.Gate{Kind: impl.GtAnd, A: last, B: d.xor(int16(i), one)})
		last = int16(len(d.gates) - 1)
	}
	return d.circuit(inputs, []int16{last})
}

// Circuits that differ for one alone of all inputs, the first or the last one, are not alike.
func TestCircuitsThatDifferOnce(t *testing.T) {
	for inputs := range 11 {
		never := circuitOf(t, fmt.Sprint(inputs, "\n1 0^0\n1\n"))
		for _, c := range []impl.Circuit{meeting(inputs), silence(inputs)} {
			for _, pair := range [][2]impl.Circuit{{c, never}, {never, c}} {
				alike, code := impl.AlikeCircuits(pair[0], pair[1])
				wantNumber(t, fmt.Sprint("AlikeCircuits of ", inputs, " inputs, and never"), alike, code, false)
			}
			alike, code := impl.AlikeCircuits(c, copyCircuit(c))
			wantNumber(t, fmt.Sprint("AlikeCircuits of ", inputs, " inputs"), alike, code, true)
		}
	}
}

// At most 10 inputs of the first one, whatever the second one has.
func TestTooManyInputsToCompare(t *testing.T) {
	for _, c := range []impl.Circuit{{}, meeting(3)} {
		for inputs := 11; inputs <= 16; inputs++ {
			great := withInputs(c, inputs)
			for others := 3; others <= 16; others++ {
				alike, code := impl.AlikeCircuits(great, withInputs(c, others))
				call("AlikeCircuits", alike, code).wantCode(t, fmt.Sprint(inputs, " and ", others, " inputs"), impl.ErrLimit)
			}
			alike, code := impl.AlikeCircuits(great, impl.Circuit{Inputs: -1})
			call("AlikeCircuits", alike, code).wantCode(t, fmt.Sprint(inputs, " inputs"), impl.ErrInvalid)
			alike, code = impl.AlikeCircuits(withInputs(c, 10), great)
			wantNumber(t, fmt.Sprint("AlikeCircuits with 10 inputs and ", inputs), alike, code, false)
		}
		alike, code := impl.AlikeCircuits(withInputs(c, 10), withInputs(c, 10))
		wantNumber(t, "AlikeCircuits with 10 inputs", alike, code, true)
	}
}
