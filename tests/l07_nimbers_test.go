package tests

import (
	"fmt"
	"math"
	"slices"
	"testing"

	"loop.example/g01307/impl"
)

// Promise 16: circuits for sums and products keep their claims.

// claimOf is what the circuits of a maker are made for.
func claimOf(name string) int64 {
	if name == "PlusCircuit" {
		return impl.ClPlus
	}
	return impl.ClTimes
}

// pairMakers are the names of those that make circuits for two nimbers.
func pairMakers() []string { return []string{"PlusCircuit", "TimesCircuit", "ShortTimes"} }

// bitCount is how many bits the nimbers of a level have.
func bitCount(level int64) int { return []int{1, 2, 4, 8}[level] }

// greatestBit is 2 to the power n - 1, for the n bits of a level.
func greatestBit(level int64) impl.Nimber { return impl.Nimber(1 << (bitCount(level) - 1)) }

func TestCircuitsKeepTheirClaims(t *testing.T) {
	for level := range int64(4) {
		for _, name := range pairMakers() {
			c := made(t, name, level)
			if got := verdictOf(c, claimOf(name), level); !got.kept {
				t.Errorf("%s(%d) is told as %v", name, level, got)
			}
			if level > 2 {
				continue
			}
			kept, code := impl.CheckCircuit(c, claimOf(name), level)
			wantNumber(t, fmt.Sprint("CheckCircuit of ", name, level), kept, code, true)
			a, b, code := impl.FirstWrong(c, claimOf(name), level)
			call("FirstWrong", [2]impl.Nimber{a, b}, code).wantCode(t, fmt.Sprint(name, level), impl.ErrNotFound)
		}
	}
}

// The program's own functions have the same sums and products, for all pairs of all levels.
func TestCircuitsRunAsNimbersAre(t *testing.T) {
	for level := range int64(4) {
		bits := bitCount(level)
		for _, name := range pairMakers() {
			c := made(t, name, level)
			for a := range impl.Nimber(1 << bits) {
				for b := range impl.Nimber(1 << bits) {
					want := impl.PlusNim(a, b)
					if claimOf(name) == impl.ClTimes {
						want = impl.TimesNim(a, b)
					}
					got, code := impl.RunCircuit(c, uint16(a)|uint16(b)<<bits)
					if code != impl.OK || impl.Nimber(got) != want {
						t.Fatalf("%s(%d) with %d and %d is %d, %d, want %d", name, level, a, b, got, code, want)
					}
				}
			}
		}
		half := made(t, "HalfTimes", level)
		for a := range impl.Nimber(1 << bits) {
			want := theOracle().times(a, greatestBit(level))
			if got, code := impl.RunCircuit(half, uint16(a)); code != impl.OK || impl.Nimber(got) != want || want != impl.TimesNim(greatestBit(level), a) {
				t.Fatalf("HalfTimes(%d) with %d is %d, %d, want %d", level, a, got, code, want)
			}
		}
	}
}

func TestBothCircuitsForProductsAreAlike(t *testing.T) {
	for level := range int64(4) {
		times, short := made(t, "TimesCircuit", level), made(t, "ShortTimes", level)
		if !sameTruth(times, short) {
			t.Errorf("TimesCircuit and ShortTimes of the level %d differ", level)
		}
		if level > 2 {
			continue
		}
		for _, pair := range [][2]impl.Circuit{{times, short}, {short, times}} {
			alike, code := impl.AlikeCircuits(pair[0], pair[1])
			wantNumber(t, fmt.Sprint("AlikeCircuits of both products of the level ", level), alike, code, true)
		}
		if plus := made(t, "PlusCircuit", level); !sameTruth(plus, times) {
			alike, code := impl.AlikeCircuits(plus, times)
			wantNumber(t, fmt.Sprint("AlikeCircuits of the sum and the product of the level ", level), alike, code, false)
		} else {
			t.Errorf("sums and products of the level %d are the same", level)
		}
	}
}

// The first gates are the inputs, in order.
func TestInputsOfCircuits(t *testing.T) {
	for level := range int64(4) {
		for _, m := range makers() {
			inputs := 2 * bitCount(level)
			if m.name == "HalfTimes" {
				inputs = bitCount(level)
			}
			c := made(t, m.name, level)
			if int(c.Inputs) != inputs || len(c.Outputs) != bitCount(level) || !slices.Equal(c.Gates[:inputs], drawingOf(inputs).gates) {
				t.Errorf("%s(%d) has %d inputs, %d outputs, and the first gates %v", m.name, level, c.Inputs, len(c.Outputs), c.Gates[:inputs])
			}
			counts, code := impl.CountGates(c)
			wantNumber(t, fmt.Sprint("the inputs of ", m.name, level), [2]int64{counts[impl.GtInput], counts[impl.GtOne]}, code, [2]int64{int64(inputs), 0})
		}
	}
}

func TestOrderOfGates(t *testing.T) {
	for name, texts := range map[string][]string{
		"PlusCircuit": {
			"2\ni0 i1 0^1\n2\n",
			"4\ni0 i1 i2 i3 0^2 1^3\n4 5\n",
			"8\ni0 i1 i2 i3 i4 i5 i6 i7 0^4 1^5 2^6 3^7\n8 9 10 11\n",
		},
		"TimesCircuit": {
			"2\ni0 i1 0&1\n2\n",
			"4\ni0 i1 i2 i3 1&3 1&2 0&3 0&2 4^5 8^6 7^4\n10 9\n",
			"8\ni0 i1 i2 i3 i4 i5 i6 i7 3&7 3&6 2&7 2&6 8^9 12^10 11^8 3&5 3&4 2&5 2&4 15^16 19^17 18^15 1&7 1&6 0&7 0&6 22^23 26^24 25^22 1&5 1&4 0&5 0&4 29^30 33^31 32^29 14^21 36^28 13^20 38^27 13^14 35^13 34^40\n41 42 37 39\n",
		},
		"ShortTimes": {
			"2\ni0 i1 0&1\n2\n",
			"4\ni0 i1 i2 i3 1^0 3^2 1&3 0&2 4&5 8^7 7^6\n10 9\n",
			"8\ni0 i1 i2 i3 i4 i5 i6 i7 2^0 3^1 6^4 7^5 3^2 7^6 3&7 2&6 12&13 16^15 15^14 1^0 5^4 1&5 0&4 19&20 23^22 22^21 9^8 11^10 9&11 8&10 26&27 30^29 29^28 32^25 31^24 17^18 25^17 24^35\n36 37 33 34\n",
		},
		"HalfTimes": {
			"1\ni0\n0\n",
			"2\ni0 i1 1^0\n1 2\n",
			"4\ni0 i1 i2 i3 3^2 1^0 4^3 3^1 4^5\n4 6 7 8\n",
		},
	} {
		for level, want := range texts {
			if got := circuitText(made(t, name, int64(level))); got != want {
				t.Errorf("%s(%d) = %q, want %q", name, level, got, want)
			}
		}
	}
}

// drawnTimes draws a product from four products of the level before, and half of one of them.
func drawnTimes(times, half impl.Circuit, n int) impl.Circuit {
	d := drawingOf(4 * n)
	x0, x1, y0, y1 := indices(0, n), indices(n, n), indices(2*n, n), indices(3*n, n)
	p := d.put(times, slices.Concat(x1, y1)...)
	q := d.put(times, slices.Concat(x1, y0)...)
	r := d.put(times, slices.Concat(x0, y1)...)
	u := d.put(times, slices.Concat(x0, y0)...)
	var s []int16
	for bit := range n {
		both := d.xor(p[bit], q[bit])
		s = append(s, d.xor(both, r[bit]))
	}
	t := d.xors(u, d.put(half, p...))
	return d.circuit(4*n, slices.Concat(t, s))
}

// drawnShort draws a product from three products of the level before, and half of one of them.
func drawnShort(short, half impl.Circuit, n int) impl.Circuit {
	d := drawingOf(4 * n)
	x0, x1, y0, y1 := indices(0, n), indices(n, n), indices(2*n, n), indices(3*n, n)
	h := d.xors(x1, x0)
	k := d.xors(y1, y0)
	p := d.put(short, slices.Concat(x1, y1)...)
	u := d.put(short, slices.Concat(x0, y0)...)
	m := d.put(short, slices.Concat(h, k)...)
	s := d.xors(m, u)
	t := d.xors(u, d.put(half, p...))
	return d.circuit(4*n, slices.Concat(t, s))
}

// drawnHalf draws half of a number from three halves of the level before.
func drawnHalf(half impl.Circuit, n int) impl.Circuit {
	d := drawingOf(2 * n)
	e := d.put(half, indices(n, n)...)
	f := d.put(half, indices(0, n)...)
	g := d.put(half, e...)
	return d.circuit(2*n, slices.Concat(g, d.xors(e, f)))
}

// drawnPlus draws a sum without any level before.
func drawnPlus(n int) impl.Circuit {
	d := drawingOf(2 * n)
	return d.circuit(2*n, d.xors(indices(0, n), indices(n, n)))
}

func TestCircuitsAreDrawnFromTheLevelBefore(t *testing.T) {
	for level := range int64(4) {
		plus, code := impl.PlusCircuit(level)
		wantCircuit(t, fmt.Sprint("PlusCircuit ", level), plus, code, drawnPlus(bitCount(level)))
	}
	for level := int64(1); level < 4; level++ {
		n := bitCount(level - 1)
		timesBefore, shortBefore, halfBefore := made(t, "TimesCircuit", level-1), made(t, "ShortTimes", level-1), made(t, "HalfTimes", level-1)
		times, code := impl.TimesCircuit(level)
		wantCircuit(t, fmt.Sprint("TimesCircuit ", level), times, code, drawnTimes(timesBefore, halfBefore, n))
		short, code := impl.ShortTimes(level)
		wantCircuit(t, fmt.Sprint("ShortTimes ", level), short, code, drawnShort(shortBefore, halfBefore, n))
		half, code := impl.HalfTimes(level)
		wantCircuit(t, fmt.Sprint("HalfTimes ", level), half, code, drawnHalf(halfBefore, n))
	}
}

func TestNumbersOfGates(t *testing.T) {
	for name, want := range map[string][4][2]int64{ // GtXor and GtAnd of each level
		"PlusCircuit":  {{1, 0}, {2, 0}, {4, 0}, {8, 0}},
		"TimesCircuit": {{0, 1}, {3, 4}, {19, 16}, {93, 64}},
		"ShortTimes":   {{0, 1}, {4, 3}, {21, 9}, {84, 27}},
		"HalfTimes":    {{0, 0}, {1, 0}, {5, 0}, {19, 0}},
	} {
		for level := range int64(4) {
			counts, code := impl.CountGates(made(t, name, level))
			wantNumber(t, fmt.Sprint("the gates of ", name, level), [2]int64{counts[impl.GtXor], counts[impl.GtAnd]}, code, want[level])
		}
	}
}

func TestLevelsOfCircuitsThatAreNone(t *testing.T) {
	for _, level := range []int64{math.MinInt64, -1 << 32, -256, -4, -2, -1, 4, 5, 8, 63, 64, 255, 256, 259, 1 << 32, 1<<32 + 1, math.MaxInt64} {
		for _, m := range makers() {
			c, code := m.make(level)
			call(m.name, c, code).wantCode(t, fmt.Sprint("the level ", level), impl.ErrRange)
		}
	}
}
