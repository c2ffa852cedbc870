package tests

import (
	"math/big"
	"slices"
	"strconv"
	"strings"
	"testing"

	"loop.example/g01307/impl"
)

// The oracle of circuits knows for each gate the set of all inputs for which it is on, as the bits of one great number, so that it
// runs no circuit; it goes from outputs to what they need, and draws circuits for nimbers from whole circuits of the level before.

// isCircuit follows the definition.
func isCircuit(c impl.Circuit) bool {
	if c.Inputs < 0 || c.Inputs > 16 || len(c.Gates) > 600 || len(c.Outputs) > 16 {
		return false
	}
	for i, g := range c.Gates {
		a, b := int(g.A), int(g.B)
		isInput := g.Kind == 0 && 0 <= a && a <= int(c.Inputs)-1 && b == 0
		isOne := g.Kind == 1 && a == 0 && b == 0
		joins := (g.Kind == 2 || g.Kind == 3) && 0 <= a && a <= i-1 && 0 <= b && b <= i-1
		if !isInput && !isOne && !joins {
			return false
		}
	}
	for _, out := range c.Outputs {
		if out < 0 || int(out) >= len(c.Gates) {
			return false
		}
	}
	return true
}

// truth has the bits of the inputs for which a gate is on.
type truth []*big.Int

func inputCount(c impl.Circuit) int { return 1 << c.Inputs }

// truthOf expects a valid circuit.
func truthOf(c impl.Circuit) truth {
	always := big.NewInt(1)
	always.Sub(always.Lsh(always, uint(inputCount(c))), big.NewInt(1))
	var list truth
	for _, g := range c.Gates {
		on := new(big.Int)
		switch g.Kind {
		case impl.GtInput:
			for bits := range inputCount(c) {
				on.SetBit(on, bits, uint(bits)>>g.A&1)
			}
		case impl.GtOne:
			on.Set(always)
		case impl.GtXor:
			on.Xor(list[g.A], list[g.B])
		case impl.GtAnd:
			on.And(list[g.A], list[g.B])
		}
		list = append(list, on)
	}
	return list
}

// outputsFor are the outputs for some inputs, as a number.
func (on truth) outputsFor(c impl.Circuit, bits int) uint16 {
	sum := uint16(0)
	for i, out := range c.Outputs {
		sum += uint16(on[out].Bit(bits)) << i
	}
	return sum
}

// outputTruth has the bits of the inputs for which each output is on.
func outputTruth(c impl.Circuit) truth {
	list := truthOf(c)
	var outputs truth
	for _, out := range c.Outputs {
		outputs = append(outputs, list[out])
	}
	return outputs
}

// sameTruth reports whether two circuits have as many inputs, and the same outputs.
func sameTruth(a, b impl.Circuit) bool {
	return a.Inputs == b.Inputs && slices.EqualFunc(outputTruth(a), outputTruth(b), func(x, y *big.Int) bool { return x.Cmp(y) == 0 })
}

// joined are the gates that a gate has as A and B.
func joined(g impl.Gate) []int16 {
	if g.Kind == impl.GtXor || g.Kind == impl.GtAnd {
		return []int16{g.A, g.B}
	}
	return nil
}

// neededBySearch goes from outputs to gates that they have, until nothing new comes.
func neededBySearch(c impl.Circuit) []int64 {
	needed := map[int16]bool{}
	search := slices.Clone(c.Outputs)
	for len(search) > 0 {
		at := search[0]
		search = search[1:]
		if !needed[at] {
			needed[at] = true
			search = append(search, joined(c.Gates[at])...)
		}
	}
	var list []int64
	for i := range c.Gates {
		if needed[int16(i)] {
			list = append(list, int64(i))
		}
	}
	return list
}

// depthBySteps is how often one can go from the gates that are outputs to those that they have.
func depthBySteps(c impl.Circuit) int64 {
	reached := map[int16]bool{}
	for _, out := range c.Outputs {
		reached[out] = true
	}
	for depth := int64(-1); ; depth++ {
		if len(reached) == 0 {
			return max(depth, 0)
		}
		next := map[int16]bool{}
		for at := range reached {
			for _, from := range joined(c.Gates[at]) {
				next[from] = true
			}
		}
		reached = next
	}
}

// withPlaces is a gate, the places of those that it has being looked up.
func withPlaces(g impl.Gate, place func(old int16) int16) impl.Gate {
	if len(joined(g)) > 0 {
		g.A, g.B = place(g.A), place(g.B)
	}
	return g
}

// trimmedBySearch leaves the needed gates, the place of each one being how many needed ones come before it.
func trimmedBySearch(c impl.Circuit) impl.Circuit {
	needed := neededBySearch(c)
	place := func(old int16) int16 { return int16(slices.Index(needed, int64(old))) }
	trimmed := impl.Circuit{Inputs: c.Inputs}
	for _, at := range needed {
		trimmed.Gates = append(trimmed.Gates, withPlaces(c.Gates[at], place))
	}
	for _, out := range c.Outputs {
		trimmed.Outputs = append(trimmed.Outputs, place(out))
	}
	return trimmed
}

// mergedBySearch goes through the kept gates for each gate.
func mergedBySearch(c impl.Circuit) impl.Circuit {
	merged := impl.Circuit{Inputs: c.Inputs}
	var places []int16
	place := func(old int16) int16 { return places[old] }
	for _, g := range c.Gates {
		g = withPlaces(g, place)
		if len(joined(g)) > 0 && g.A > g.B {
			g.A, g.B = g.B, g.A
		}
		at := slices.Index(merged.Gates, g)
		if at < 0 {
			at = len(merged.Gates)
			merged.Gates = append(merged.Gates, g)
		}
		places = append(places, int16(at))
	}
	for _, out := range c.Outputs {
		merged.Outputs = append(merged.Outputs, place(out))
	}
	return merged
}

// gateText writes a gate as the document tells it.
func gateText(g impl.Gate) string {
	a, b := strconv.Itoa(int(g.A)), strconv.Itoa(int(g.B))
	return []string{"i" + a, "1", a + "^" + b, a + "&" + b}[g.Kind]
}

// circuitText writes a circuit as the document tells it.
func circuitText(c impl.Circuit) string {
	var gates, outputs []string
	for _, g := range c.Gates {
		gates = append(gates, gateText(g))
	}
	for _, out := range c.Outputs {
		outputs = append(outputs, strconv.Itoa(int(out)))
	}
	return strconv.Itoa(int(c.Inputs)) + "\n" + strings.Join(gates, " ") + "\n" + strings.Join(outputs, " ") + "\n"
}

// claimedOf is the sum or the product of two nimbers.
func claimedOf(claim int64, a, b impl.Nimber) impl.Nimber {
	if claim == impl.ClPlus {
		return a ^ b
	}
	return theOracle().times(a, b)
}

// verdict tells whether a claim fits a circuit, whether it is kept, and otherwise the first pair for which it is not.
type verdict struct {
	fits bool
	kept bool
	a    impl.Nimber
	b    impl.Nimber
}

// verdictOf looks at all pairs.
func verdictOf(c impl.Circuit, claim, level int64) verdict {
	width := 1 << level
	if int(c.Inputs) != 2*width || len(c.Outputs) != width {
		return verdict{}
	}
	on := truthOf(c)
	for a := range 1 << width {
		for b := range 1 << width {
			if on.outputsFor(c, a+b<<width) != uint16(claimedOf(claim, impl.Nimber(a), impl.Nimber(b))) {
				return verdict{fits: true, a: impl.Nimber(a), b: impl.Nimber(b)}
			}
		}
	}
	return verdict{fits: true, kept: true}
}

// drawing is a circuit that is made of whole circuits.
type drawing struct {
	gates []impl.Gate
}

func drawingOf(inputs int) *drawing {
	d := &drawing{}
	for i := range inputs {
		d.gates = append(d.gates, impl.Gate{A: int16(i)})
	}
	return d
}

func (d *drawing) xor(a, b int16) int16 {
	d.gates = append(d.gates, impl.Gate{Kind: impl.GtXor, A: a, B: b})
	return int16(len(d.gates) - 1)
}

func (d *drawing) xors(x, y []int16) []int16 {
	var list []int16
	for i := range x {
		list = append(list, d.xor(x[i], y[i]))
	}
	return list
}

// put draws a circuit whose first gates are its inputs, with other gates for these, and has its outputs.
func (d *drawing) put(c impl.Circuit, inputs ...int16) []int16 {
	added := len(d.gates) - len(inputs)
	place := func(old int16) int16 {
		if int(old) < len(inputs) {
			return inputs[old]
		}
		return old + int16(added)
	}
	for _, g := range c.Gates[len(inputs):] {
		d.gates = append(d.gates, withPlaces(g, place))
	}
	var outputs []int16
	for _, out := range c.Outputs {
		outputs = append(outputs, place(out))
	}
	return outputs
}

func (d *drawing) circuit(inputs int, outputs []int16) impl.Circuit {
	return impl.Circuit{Inputs: int8(inputs), Gates: d.gates, Outputs: outputs}
}

// indices are the numbers from first on, so many.
func indices(first, count int) []int16 {
	var list []int16
	for i := range count {
		list = append(list, int16(first+i))
	}
	return list
}

// maker is a function that makes circuits for nimbers.
type maker struct {
	name string
	make func(level int64) (impl.Circuit, int64)
}

func makers() []maker {
	return []maker{{"PlusCircuit", impl.PlusCircuit}, {"TimesCircuit", impl.TimesCircuit}, {"ShortTimes", impl.ShortTimes}, {"HalfTimes", impl.HalfTimes}}
}

// made is a circuit for nimbers of a level that there is, by the name of its maker.
func made(t *testing.T, name string, level int64) impl.Circuit {
	t.Helper()
	hasName := func(m maker) bool { return m.name == name }
	c, code := makers()[slices.IndexFunc(makers(), hasName)].make(level)
	if code != impl.OK || !isCircuit(c) {
		t.Fatalf("%s(%d) = %v, %d", name, level, c, code)
	}
	return c
}

// circuitOf is the circuit with a text that has to be one.
func circuitOf(t *testing.T, text string) impl.Circuit {
	t.Helper()
	c, code := impl.ReadCircuit(text)
	if code != impl.OK {
		t.Fatalf("ReadCircuit(%q) = %d", text, code)
	}
	return c
}

// wantCircuit checks a circuit that is known.
func wantCircuit(t *testing.T, name string, got impl.Circuit, code int64, want impl.Circuit) {
	t.Helper()
	if code != impl.OK || got.Inputs != want.Inputs || !slices.Equal(got.Gates, want.Gates) || !slices.Equal(got.Outputs, want.Outputs) {
		t.Errorf("%s = %v, %d, want %v", name, got, code, want)
	}
}

func copyCircuit(c impl.Circuit) impl.Circuit {
	return impl.Circuit{Inputs: c.Inputs, Gates: slices.Clone(c.Gates), Outputs: slices.Clone(c.Outputs)}
}
