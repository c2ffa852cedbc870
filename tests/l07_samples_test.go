package tests

import (
	"slices"
	"strconv"
	"sync"

	"loop.example/g01307/impl"
)

// The circuits with which chapter 7 is tested.

// gate is a gate with an index; many are equal, or have the same gate twice.
func (d *dice) gate(inputs, index int) impl.Gate {
	chance := d.next(10)
	switch {
	case inputs > 0 && (chance < 2 || index < 2):
		return impl.Gate{A: int16(d.next(inputs))}
	case index == 0 || chance == 2:
		return impl.Gate{Kind: impl.GtOne}
	}
	g := impl.Gate{Kind: int8(2 + d.next(2)), A: int16(d.next(index)), B: int16(d.next(index))}
	if chance == 3 {
		g.A = int16(index - 1)
	}
	if chance == 4 {
		g.B = g.A
	}
	return g
}

func (d *dice) circuit(inputs, gates, outputs int) impl.Circuit {
	c := impl.Circuit{Inputs: int8(inputs)}
	for i := range gates {
		c.Gates = append(c.Gates, d.gate(inputs, i))
	}
	for range outputs {
		c.Outputs = append(c.Outputs, int16(d.next(gates)))
	}
	return c
}

// chain joins each gate with the one before, and with one that is farther back.
func chain(gates int, kind int8) impl.Circuit {
	c := impl.Circuit{Inputs: 1, Gates: []impl.Gate{{Kind: impl.GtInput}}}
	for i := 1; i < gates; i++ {
		c.Gates = append(c.Gates, impl.Gate{Kind: kind, A: int16(i - 1), B: int16(i / 2)})
	}
	c.Outputs = []int16{int16(gates - 1)}
	return c
}

// allCircuits has all valid circuits with so many inputs and gates, all gates but the first one being outputs, backwards.
func allCircuits(inputs, gates int) []impl.Circuit {
	if gates == 0 {
		return []impl.Circuit{{Inputs: int8(inputs)}}
	}
	var list []impl.Circuit
	for _, c := range allCircuits(inputs, gates-1) {
		next := []impl.Gate{{Kind: impl.GtOne}}
		for a := range inputs {
			next = append(next, impl.Gate{A: int16(a)})
		}
		for a := range gates - 1 {
			for b := range gates - 1 {
				next = append(next, impl.Gate{Kind: impl.GtXor, A: int16(a), B: int16(b)}, impl.Gate{Kind: impl.GtAnd, A: int16(a), B: int16(b)})
			}
		}
		for _, g := range next {
			longer := impl.Circuit{Inputs: c.Inputs, Gates: append(slices.Clone(c.Gates), g)}
			for i := gates - 1; i > 0; i-- {
				longer.Outputs = append(longer.Outputs, int16(i))
			}
			list = append(list, longer)
		}
	}
	return list
}

// plainCircuits are circuits with edges that are told by hand.
func plainCircuits() []impl.Circuit {
	list := []impl.Circuit{{}, {Gates: []impl.Gate{}, Outputs: []int16{}}}
	for inputs := range int8(17) {
		list = append(list, impl.Circuit{Inputs: inputs})
		if inputs > 0 {
			last := []impl.Gate{{A: int16(inputs - 1)}}
			list = append(list, impl.Circuit{Inputs: inputs, Gates: last}, impl.Circuit{Inputs: inputs, Gates: last, Outputs: []int16{0, 0}})
		}
	}
	one := impl.Gate{Kind: impl.GtOne}
	return append(list,
		impl.Circuit{Gates: []impl.Gate{one}},
		impl.Circuit{Gates: []impl.Gate{one}, Outputs: make([]int16, 16)},
		impl.Circuit{Inputs: 16, Gates: []impl.Gate{one, one}, Outputs: []int16{1}},
		impl.Circuit{Gates: []impl.Gate{one, {Kind: impl.GtXor}, {Kind: impl.GtAnd}, {Kind: impl.GtAnd, A: 1, B: 2}}, Outputs: []int16{3, 2, 1, 0, 2}},
		impl.Circuit{Inputs: 2, Gates: []impl.Gate{{A: 1}, {A: 0}, one, {A: 1}, {Kind: impl.GtAnd, A: 0, B: 1}, {Kind: impl.GtAnd, A: 1, B: 3}, {Kind: impl.GtXor, A: 4, B: 2}, {Kind: impl.GtXor, A: 2, B: 5}}, Outputs: []int16{7, 6, 0}},
	)
}

// greatCircuits have as many inputs, gates and outputs as there may be.
func greatCircuits() []impl.Circuit {
	d := dice(700)
	return []impl.Circuit{
		{Inputs: 16, Gates: slices.Repeat([]impl.Gate{{A: 15}}, 600), Outputs: slices.Repeat([]int16{599}, 16)},
		{Gates: slices.Repeat([]impl.Gate{{Kind: impl.GtOne}}, 600), Outputs: slices.Repeat([]int16{599}, 16)},
		chain(600, impl.GtXor), chain(600, impl.GtAnd),
		d.circuit(16, 600, 16), d.circuit(16, 599, 15), d.circuit(16, 600, 0), d.circuit(0, 600, 16),
	}
}

// someCircuits are valid circuits of all kinds, few enough for what is slow.
var someCircuits = sync.OnceValue(func() []impl.Circuit {
	d := dice(701)
	list := plainCircuits()
	for inputs := range 7 {
		for _, gates := range []int{1, 2, 3, 5, 9, 20, 60} {
			list = append(list, d.circuit(inputs, gates, d.next(4)), d.circuit(inputs, gates, d.next(17)))
		}
	}
	for level := range int64(4) {
		for _, m := range makers() {
			if c, code := m.make(level); code == impl.OK && isCircuit(c) {
				list = append(list, c)
			}
		}
	}
	return append(list, greatCircuits()...)
})

// manyCircuits are valid circuits with few inputs, among them all small ones.
var manyCircuits = sync.OnceValue(func() []impl.Circuit {
	list := slices.Concat(allCircuits(0, 4), allCircuits(1, 4), allCircuits(2, 3), allCircuits(3, 3))
	d := dice(702)
	for i := range 3000 {
		list = append(list, d.circuit(i%6, 1+d.next(30), d.next(17)))
	}
	return append(list, someCircuits()...)
})

// withGate is a circuit, a gate being another one.
func withGate(c impl.Circuit, at int, g impl.Gate) impl.Circuit {
	c = copyCircuit(c)
	c.Gates[at] = g
	return c
}

// invalidCircuits break one rule each, and some of them several.
func invalidCircuits() []impl.Circuit {
	var list []impl.Circuit
	for _, inputs := range []int8{-128, -16, -2, -1, 17, 18, 32, 64, 127} {
		list = append(list, impl.Circuit{Inputs: inputs}, impl.Circuit{Inputs: inputs, Gates: []impl.Gate{{Kind: impl.GtOne}}, Outputs: []int16{0}}, impl.Circuit{Inputs: inputs, Gates: []impl.Gate{{A: 0}}})
	}
	for _, count := range []int{601, 602, 856, 1200, 65536, 65537, 66136, 1_000_000} {
		list = append(list, impl.Circuit{Inputs: 1, Gates: make([]impl.Gate, count)}, impl.Circuit{Gates: slices.Repeat([]impl.Gate{{Kind: impl.GtOne}}, count), Outputs: []int16{0}})
	}
	list = append(list, chain(601, impl.GtXor))
	for _, count := range []int{17, 18, 32, 256, 257, 272, 65536, 65552, 1_000_000} {
		list = append(list, impl.Circuit{Gates: []impl.Gate{{Kind: impl.GtOne}}, Outputs: make([]int16, count)})
	}
	base := impl.Circuit{Inputs: 3, Gates: []impl.Gate{{A: 0}, {A: 2}, {Kind: impl.GtOne}, {Kind: impl.GtXor, A: 0, B: 1}, {Kind: impl.GtAnd, A: 3, B: 2}, {Kind: impl.GtXor, A: 4, B: 4}}, Outputs: []int16{5, 5, 0}}
	for _, out := range []int16{-32768, -256, -2, -1, 6, 7, 255, 256, 261, 32767} {
		for _, outputs := range [][]int16{{out}, {out, 5}, {5, out}, {5, 0, out}} {
			bad := copyCircuit(base)
			bad.Outputs = outputs
			list = append(list, bad)
		}
	}
	list = append(list, impl.Circuit{Outputs: []int16{0}}, impl.Circuit{Inputs: 1, Outputs: []int16{0}})
	for at := range base.Gates {
		for _, kind := range []int8{-128, -4, -1, 4, 5, 6, 127} {
			list = append(list, withGate(base, at, impl.Gate{Kind: kind}))
		}
		for _, bad := range []int16{-32768, -256, -1, 1, 2, 3, 256, 32767} {
			list = append(list, withGate(base, at, impl.Gate{A: 0, B: bad}), withGate(base, at, impl.Gate{Kind: impl.GtOne, A: bad}), withGate(base, at, impl.Gate{Kind: impl.GtOne, B: bad}), withGate(base, at, impl.Gate{Kind: impl.GtOne, A: bad, B: bad}))
		}
		for _, bad := range []int16{-32768, -256, -3, -1, 3, 4, 256, 258, 32767} {
			list = append(list, withGate(base, at, impl.Gate{A: bad}))
		}
		for _, bad := range []int16{-32768, -256, -1, int16(at), int16(at + 1), 6, 256, 32767} {
			for _, kind := range []int8{impl.GtXor, impl.GtAnd} {
				list = append(list, withGate(base, at, impl.Gate{Kind: kind, A: bad}), withGate(base, at, impl.Gate{Kind: kind, B: bad}), withGate(base, at, impl.Gate{Kind: kind, A: bad, B: bad}))
			}
		}
	}
	for _, great := range greatCircuits() {
		last := len(great.Gates) - 1
		list = append(list, withGate(great, last, impl.Gate{Kind: impl.GtXor, A: int16(last)}), withGate(great, last, impl.Gate{Kind: 4}), impl.Circuit{Inputs: great.Inputs, Gates: great.Gates, Outputs: []int16{int16(last + 1)}})
	}
	return list
}

// shortCircuit tells a circuit, and only the beginning of a great one.
func shortCircuit(c impl.Circuit) string {
	about := strconv.Itoa(int(c.Inputs)) + " inputs, " + strconv.Itoa(len(c.Gates)) + " gates and " + strconv.Itoa(len(c.Outputs)) + " outputs"
	for _, g := range c.Gates[:min(len(c.Gates), 12)] {
		about += " " + strconv.Itoa(int(g.Kind)) + ":" + strconv.Itoa(int(g.A)) + "," + strconv.Itoa(int(g.B))
	}
	for _, out := range c.Outputs[:min(len(c.Outputs), 16)] {
		about += " >" + strconv.Itoa(int(out))
	}
	return about
}
