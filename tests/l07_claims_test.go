package tests

import (
	"fmt"
	"math"
	"slices"
	"testing"

	"loop.example/g01307/impl"
)

// Promise 17: a claim that is not kept has a first wrong pair.

func claims() []int64 { return []int64{impl.ClPlus, impl.ClTimes} }

// badClaims are numbers of no claim.
func badClaims() []int64 {
	return []int64{math.MinInt64, -1 << 32, -256, -2, -1, 2, 3, 4, 255, 256, 257, 1 << 32, 1<<32 + 1, math.MaxInt64}
}

// badClaimLevels are levels with which no claim is checked.
func badClaimLevels() []int64 {
	return []int64{math.MinInt64, -1 << 32, -256, -2, -1, 3, 4, 8, 63, 64, 256, 258, 1 << 32, 1<<32 + 1, math.MaxInt64}
}

// wantVerdict compares both functions with what is seen at all pairs.
func wantVerdict(t *testing.T, c impl.Circuit, claim, level int64) {
	t.Helper()
	about := fmt.Sprint(shortCircuit(c), ", the claim ", claim, " and the level ", level)
	want := verdictOf(c, claim, level)
	kept, code := impl.CheckCircuit(c, claim, level)
	wantNumber(t, "CheckCircuit of "+about, kept, code, want.kept)
	a, b, code := impl.FirstWrong(c, claim, level)
	found := call("FirstWrong", [2]impl.Nimber{a, b}, code)
	switch {
	case !want.fits:
		found.wantCode(t, about, impl.ErrState)
	case want.kept:
		found.wantCode(t, about, impl.ErrNotFound)
	default:
		wantNumber(t, "FirstWrong of "+about, [2]impl.Nimber{a, b}, code, [2]impl.Nimber{want.a, want.b})
	}
}

func TestClaimsOfCircuits(t *testing.T) {
	for _, c := range manyCircuits() {
		for level := range int64(3) {
			for _, claim := range claims() {
				wantVerdict(t, c, claim, level)
			}
		}
	}
}

// Circuits with sizes that fit, most of which keep no claim.
func TestClaimsOfAnyCircuits(t *testing.T) {
	d := dice(720)
	for level := range int64(3) {
		bits := bitCount(level)
		for range 400 {
			c := d.circuit(2*bits, 3+d.next(40), bits)
			for _, claim := range claims() {
				wantVerdict(t, c, claim, level)
			}
		}
	}
}

// All small circuits that fit, of which some keep a claim in another way than those that are made.
func TestClaimsOfSmallCircuits(t *testing.T) {
	kept := [2]int{}
	for _, c := range allCircuits(2, 4) {
		for last := range c.Gates {
			c.Outputs = []int16{int16(last)}
			for _, claim := range claims() {
				wantVerdict(t, c, claim, 0)
				if verdictOf(c, claim, 0).kept {
					kept[claim]++
				}
			}
		}
	}
	if kept[0] < 10 || kept[1] < 10 {
		t.Errorf("only %v circuits keep a claim: the test shows little", kept)
	}
}

func TestClaimsByHand(t *testing.T) {
	for _, c := range []struct {
		text         string
		claim, level int64
		kept         bool
	}{
		{"2\ni0 i1 0^1\n2\n", impl.ClPlus, 0, true},
		{"2\ni0 i1 0^1\n2\n", impl.ClTimes, 0, false},
		{"2\ni0 i1 0&1\n2\n", impl.ClTimes, 0, true},
		{"2\ni0 i1 0&1\n2\n", impl.ClPlus, 0, false},
		{"2\ni1 i0 0^1\n2\n", impl.ClPlus, 0, true},                  // the inputs may come in any order,
		{"2\n1 i1 0&1 i1 i0 4^2 5^3 6^1\n7\n", impl.ClPlus, 0, true}, // behind other gates, and several times
		{"2\ni0 i1 0&0 1&1 2^3\n4\n", impl.ClPlus, 0, true},
		{"4\ni0 i1 i2 i3 0^2 1^3\n4 5\n", impl.ClPlus, 1, true},
		{"4\ni0 i1 i2 i3 0^2 1^3\n5 4\n", impl.ClPlus, 1, false}, // the lowest bit comes first
		{"4\ni0 i2 i1 i3 0^2 1^3\n4 5\n", impl.ClPlus, 1, false}, // the bits of a come first
		{"4\ni0 i1 i2 i3 1&3 1&2 0&3 0&2 4^5 8^6 7^4\n10 9\n", impl.ClTimes, 1, true},
		{"4\ni0 i1 i2 i3 1&3 1&2 0&3 0&2 5^6 4^8 4^7\n10 9\n", impl.ClTimes, 1, true},
		{"4\ni0 i1 i2 i3 1&3 1&2 0&3 0&2 5^6 4^8 4^7\n10 8\n", impl.ClTimes, 1, false},
	} {
		circuit := circuitOf(t, c.text)
		kept, code := impl.CheckCircuit(circuit, c.claim, c.level)
		wantNumber(t, fmt.Sprintf("CheckCircuit of %q, %d and %d", c.text, c.claim, c.level), kept, code, c.kept)
		wantVerdict(t, circuit, c.claim, c.level)
	}
}

// A circuit fits one level alone, so that it keeps a claim at one level and at no other.
func TestClaimsAtOtherLevels(t *testing.T) {
	for level := range int64(4) {
		for _, name := range pairMakers() {
			c := made(t, name, level)
			for other := range int64(3) {
				for _, claim := range claims() {
					kept, code := impl.CheckCircuit(c, claim, other)
					wantNumber(t, fmt.Sprint("CheckCircuit of ", name, level, claim, other), kept, code, other == level && claim == claimOf(name))
					if other != level {
						a, b, code := impl.FirstWrong(c, claim, other)
						call("FirstWrong", [2]impl.Nimber{a, b}, code).wantCode(t, fmt.Sprint(name, level, claim, other), impl.ErrState)
					}
				}
			}
		}
	}
}

// Each output of a sum and a product is made wrong for one pair alone: the first of all, the last of all, and some between.
func TestOneWrongPair(t *testing.T) {
	for level := range int64(3) {
		bits := bitCount(level)
		last := impl.Nimber(1<<bits - 1)
		pairs := [][2]impl.Nimber{{0, 0}, {last, last}, {0, last}, {last, 0}, {0, 1}, {1, 0}, {last / 2, last}, {last, last / 2}}
		for _, name := range pairMakers() {
			for _, pair := range pairs {
				for out := range bits {
					c := wrongFor(made(t, name, level), pair, out)
					a, b, code := impl.FirstWrong(c, claimOf(name), level)
					about := fmt.Sprint(name, level, ", wrong for ", pair, " in the output ", out)
					wantNumber(t, "FirstWrong of "+about, [2]impl.Nimber{a, b}, code, pair)
					kept, code := impl.CheckCircuit(c, claimOf(name), level)
					wantNumber(t, "CheckCircuit of "+about, kept, code, false)
				}
			}
		}
	}
}

// wrongFor changes an output for one pair alone.
func wrongFor(c impl.Circuit, pair [2]impl.Nimber, out int) impl.Circuit {
	d := &drawing{gates: append(slices.Clone(c.Gates), impl.Gate{Kind: impl.GtOne})}
	one := int16(len(d.gates) - 1)
	is := one
	for i := range c.Inputs {
		half := int(c.Inputs) / 2
		wanted := pair[int(i)/half] >> (int(i) % half) & 1
		from := int16(i)
		if wanted == 0 {
			from = d.xor(from, one)
		}
		d.gates = append(d.gates, impl.Gate{Kind: impl.GtAnd, A: is, B: from})
		is = int16(len(d.gates) - 1)
	}
	outputs := slices.Clone(c.Outputs)
	outputs[out] = d.xor(outputs[out], is)
	return impl.Circuit{Inputs: c.Inputs, Gates: d.gates, Outputs: outputs}
}

// Of several wrong pairs the first one comes, ordered by a, and then by b.
func TestTheFirstOfTwoWrongPairs(t *testing.T) {
	d := dice(721)
	for level := int64(1); level < 3; level++ {
		bits := bitCount(level)
		for _, name := range pairMakers() {
			for range 60 {
				first := [2]impl.Nimber{impl.Nimber(d.next(1 << bits)), impl.Nimber(d.next(1 << bits))}
				second := [2]impl.Nimber{impl.Nimber(d.next(1 << bits)), impl.Nimber(d.next(1 << bits))}
				if first == second {
					continue
				}
				c := wrongFor(wrongFor(made(t, name, level), first, 0), second, bits-1)
				want := first
				if slices.Compare(second[:], first[:]) < 0 {
					want = second
				}
				a, b, code := impl.FirstWrong(c, claimOf(name), level)
				wantNumber(t, fmt.Sprint("FirstWrong of ", name, level, ", wrong for ", first, second), [2]impl.Nimber{a, b}, code, want)
			}
		}
	}
}

// One input or output more or less, and nothing fits; the outputs are right otherwise.
func TestClaimsOfOtherSizes(t *testing.T) {
	for level := range int64(3) {
		for _, name := range pairMakers() {
			c := made(t, name, level)
			others := []impl.Circuit{
				withInputs(c, int(c.Inputs)+1), withInputs(c, 16), {Inputs: c.Inputs, Gates: c.Gates}, {Inputs: c.Inputs, Gates: c.Gates, Outputs: c.Outputs[1:]},
				{Inputs: c.Inputs, Gates: c.Gates, Outputs: append(slices.Clone(c.Outputs), 0)}, {Inputs: c.Inputs, Gates: c.Gates, Outputs: slices.Repeat(c.Outputs, 2)}, {}, {Inputs: c.Inputs},
			}
			for _, other := range others {
				for _, claim := range claims() {
					wantVerdict(t, other, claim, level)
					a, b, code := impl.FirstWrong(other, claim, level)
					call("FirstWrong", [2]impl.Nimber{a, b}, code).wantCode(t, shortCircuit(other), impl.ErrState)
				}
			}
		}
	}
}

// claimCalls calls both functions of claims.
func claimCalls(c impl.Circuit, claim, level int64) []called {
	kept, one := impl.CheckCircuit(c, claim, level)
	a, b, two := impl.FirstWrong(c, claim, level)
	return []called{call("CheckCircuit", kept, one), call("FirstWrong", [2]impl.Nimber{a, b}, two)}
}

// ErrRange comes before ErrState and ErrNotFound, so there are circuits that do not fit, and others that keep what they can.
func TestClaimsAndLevelsThatAreNone(t *testing.T) {
	for _, c := range []impl.Circuit{{}, made(t, "PlusCircuit", 0), made(t, "TimesCircuit", 2), made(t, "TimesCircuit", 3), made(t, "PlusCircuit", 3)} {
		for _, claim := range badClaims() {
			for _, level := range append(badClaimLevels(), 0, 1, 2) {
				for _, found := range claimCalls(c, claim, level) {
					found.wantCode(t, fmt.Sprint(shortCircuit(c), claim, level), impl.ErrRange)
				}
			}
		}
		for _, level := range badClaimLevels() {
			for _, claim := range claims() {
				for _, found := range claimCalls(c, claim, level) {
					found.wantCode(t, fmt.Sprint(shortCircuit(c), claim, level), impl.ErrRange)
				}
			}
		}
	}
}
