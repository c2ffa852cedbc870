package tests

import (
	"testing"

	"loop.example/g01307/impl"
)

// Promise 3: products are the least numbers that are not excluded; a move that leads makes the sum 0.

// exclusionTable has the products of all nimbers up to bound, each one found by what is excluded alone.
func exclusionTable(bound int) [][]impl.Nimber {
	table := make([][]impl.Nimber, bound+1)
	for a := range table {
		table[a] = make([]impl.Nimber, bound+1)
		for b := range table[a] {
			set := map[impl.Nimber]bool{}
			for x := range a {
				for y := range b {
					set[table[x][b]^table[a][y]^table[x][y]] = true
				}
			}
			table[a][b] = leastExcluded(set)
		}
	}
	return table
}

func TestProductsAreTheLeastNotExcluded(t *testing.T) {
	table := exclusionTable(31)
	for a := range impl.Nimber(32) {
		for b := range impl.Nimber(32) {
			want := table[a][b]
			if got, code := impl.TimesByExclusion(a, b); got != want || code != impl.OK {
				t.Errorf("TimesByExclusion(%d, %d) = %d, %d, want %d", a, b, got, code, want)
			}
			if got := impl.TimesNim(a, b); got != want {
				t.Errorf("TimesNim(%d, %d) = %d, want %d", a, b, got, want)
			}
		}
	}
}

func TestGreaterProductsAreTheLeastNotExcluded(t *testing.T) {
	for _, pair := range [][2]impl.Nimber{{32, 32}, {40, 300}, {255, 255}, {256, 3}, {3, 256}, {256, 256}, {300, 257}, {65535, 2}, {2, 65535}, {5, 40000}} {
		a, b := pair[0], pair[1]
		set := map[impl.Nimber]bool{}
		for x := range a {
			for y := range b {
				set[impl.TimesNim(x, b)^impl.TimesNim(a, y)^impl.TimesNim(x, y)] = true
			}
		}
		if got, want := impl.TimesNim(a, b), leastExcluded(set); got != want {
			t.Errorf("TimesNim(%d, %d) = %d, but the least that is not excluded is %d", a, b, got, want)
		}
	}
}

func TestProductsOfAllLevels(t *testing.T) {
	o := theOracle()
	for a := range impl.Nimber(256) {
		for b := range impl.Nimber(256) {
			if got, want := impl.TimesNim(a, b), o.times(a, b); got != want {
				t.Fatalf("TimesNim(%d, %d) = %d, want %d", a, b, got, want)
			}
		}
	}
	for _, b := range samples() {
		for a := range all {
			if got, want := impl.TimesNim(a, b), o.times(a, b); got != want {
				t.Fatalf("TimesNim(%d, %d) = %d, want %d", a, b, got, want)
			}
		}
	}
}

func TestOracleIsRight(t *testing.T) {
	table := exclusionTable(40)
	for a := range table {
		for b := range table {
			if got := theOracle().times(impl.Nimber(a), impl.Nimber(b)); got != table[a][b] {
				t.Fatalf("the oracle's product of %d and %d is %d, want %d", a, b, got, table[a][b])
			}
		}
	}
}

func TestExclusionHasALimit(t *testing.T) {
	for _, pair := range [][2]impl.Nimber{{32, 0}, {0, 32}, {32, 1}, {1, 32}, {32, 32}, {31, 32}, {32, 31}, {65535, 65535}, {0, 65535}, {256, 0}} {
		if got, code := impl.TimesByExclusion(pair[0], pair[1]); got != 0 || code != impl.ErrRange {
			t.Errorf("TimesByExclusion(%d, %d) = %d, %d", pair[0], pair[1], got, code)
		}
	}
	if got, code := impl.TimesByExclusion(31, 31); got != theOracle().times(31, 31) || code != impl.OK {
		t.Errorf("TimesByExclusion(31, 31) = %d, %d", got, code)
	}
}

func TestExcludedBy(t *testing.T) {
	cases := []struct {
		list []impl.Nimber
		want int64
	}{
		{nil, 0},
		{[]impl.Nimber{0}, 1},
		{[]impl.Nimber{1}, 0},
		{[]impl.Nimber{65535}, 0},
		{[]impl.Nimber{0, 1, 3}, 2},
		{[]impl.Nimber{3, 1, 0}, 2},
		{[]impl.Nimber{0, 0, 0}, 1},
		{[]impl.Nimber{2, 1, 0, 1, 2}, 3},
		{[]impl.Nimber{1, 2, 3}, 0},
		{[]impl.Nimber{0, 65535, 1}, 2},
		{[]impl.Nimber{4, 3, 2, 1, 0, 6}, 5},
	}
	for _, c := range cases {
		if got, code := impl.ExcludedBy(c.list); got != c.want || code != impl.OK {
			t.Errorf("ExcludedBy(%v) = %d, %d, want %d", c.list, got, code, c.want)
		}
	}
}

func TestExcludedByHasALimit(t *testing.T) {
	list := make([]impl.Nimber, impl.MaxList+1)
	for i := range list {
		list[i] = impl.Nimber(len(list) - 1 - i) // 1000, 999, ... and 0
	}
	if got, code := impl.ExcludedBy(list); got != 0 || code != impl.ErrLimit {
		t.Errorf("ExcludedBy of MaxList nimbers and one more = %d, %d", got, code)
	}
	if got, code := impl.ExcludedBy(list[1:]); got != impl.MaxList || code != impl.OK {
		t.Errorf("ExcludedBy of 0 to MaxList - 1 = %d, %d", got, code)
	}
	if got, code := impl.ExcludedBy(list[:impl.MaxList]); got != 0 || code != impl.OK {
		t.Errorf("ExcludedBy of 1 to MaxList = %d, %d", got, code)
	}
}

// firstLeading looks for the first heap that can be made less so that the sum is 0, by trying all moves.
func firstLeading(heaps []impl.Nimber) (int64, impl.Nimber, int64) {
	for i, heap := range heaps {
		others := impl.Nimber(0)
		for k, other := range heaps {
			if k != i {
				others ^= other
			}
		}
		for to := range heap {
			if others^to == 0 {
				return int64(i), to, impl.OK
			}
		}
	}
	return 0, 0, impl.ErrNotFound
}

func checkLeading(t *testing.T, heaps []impl.Nimber) {
	t.Helper()
	at, to, code := impl.LeadingMove(heaps)
	wantAt, wantTo, wantCode := firstLeading(heaps)
	if at != wantAt || to != wantTo || code != wantCode {
		t.Errorf("LeadingMove(%v) = %d, %d, %d, want %d, %d, %d", heaps, at, to, code, wantAt, wantTo, wantCode)
	}
	if code != impl.OK {
		return
	}
	after := append([]impl.Nimber{}, heaps...)
	after[at] = to
	if sum := impl.SumOf(after); sum != 0 || to >= heaps[at] {
		t.Errorf("LeadingMove(%v) = %d, %d, behind which the sum is %d", heaps, at, to, sum)
	}
}

func TestLeadingMovesOfThreeHeaps(t *testing.T) {
	for a := range impl.Nimber(9) {
		for b := range impl.Nimber(9) {
			for c := range impl.Nimber(9) {
				checkLeading(t, []impl.Nimber{a, b, c})
			}
		}
	}
}

func TestLeadingMoves(t *testing.T) {
	for _, heaps := range [][]impl.Nimber{
		{}, {0}, {1}, {65535}, {0, 0}, {5, 5}, {65535, 65535}, {0, 0, 7}, {0, 65535, 0}, {1, 2, 3}, {1, 2, 4},
		{65535, 32768, 32767}, {65535, 32768, 32766}, {256, 255, 1, 0, 511}, {40000, 30000, 20000, 10000}, {4, 8, 12, 12}, {1, 1, 1},
	} {
		checkLeading(t, heaps)
	}
}
