package tests

import (
	"slices"
	"testing"

	"loop.example/g01307/impl"
)

// Promise 4: quadratic equations have the roots that are told; traces are 0 or 1.

func TestTraces(t *testing.T) {
	o := theOracle()
	ones := 0
	for a := range all {
		want, power := impl.Nimber(0), a
		for range 16 {
			want ^= power
			power = o.times(power, power)
		}
		got := impl.TraceOf(a)
		if got != want || got > 1 {
			t.Fatalf("TraceOf(%d) = %d, want %d", a, got, want)
		}
		ones += int(got)
	}
	if ones != 32768 {
		t.Errorf("%d nimbers have the trace 1", ones)
	}
}

func TestConjugates(t *testing.T) {
	o := theOracle()
	for a := range all {
		want := []impl.Nimber{a}
		for c := o.times(a, a); c != a; c = o.times(c, c) {
			want = append(want, c)
		}
		if got := impl.ConjugatesOf(a); !slices.Equal(got, want) {
			t.Fatalf("ConjugatesOf(%d) = %v, want %v", a, got, want)
		}
	}
}

func TestConjugatesOfLevels(t *testing.T) {
	for a, want := range map[impl.Nimber][]impl.Nimber{0: {0}, 1: {1}, 2: {2, 3}, 3: {3, 2}, 4: {4, 6, 5, 7}} {
		if got := impl.ConjugatesOf(a); !slices.Equal(got, want) {
			t.Errorf("ConjugatesOf(%d) = %v, want %v", a, got, want)
		}
	}
	for a := range all {
		if got := len(impl.ConjugatesOf(a)); got != 1<<impl.LevelOf(a) {
			t.Fatalf("%d has %d conjugates", a, got)
		}
	}
}

func TestHalfRoots(t *testing.T) {
	o := theOracle()
	least := map[impl.Nimber]impl.Nimber{}
	for x := range all {
		sum := x ^ o.times(x, x)
		if _, found := least[sum]; !found {
			least[sum] = x
		}
	}
	for a := range all {
		want, found := least[a]
		wantCode := int64(impl.OK)
		if !found {
			wantCode = impl.ErrNotFound
		}
		if x, code := impl.HalfRoot(a); x != want || code != wantCode {
			t.Fatalf("HalfRoot(%d) = %d, %d, want %d, %d", a, x, code, want, wantCode)
		}
		if found == (impl.TraceOf(a) == 1) {
			t.Fatalf("%d has the trace %d, and a half root: %t", a, impl.TraceOf(a), found)
		}
	}
}

// rootsByTrying has all x for which the sum of the square of x, of the product of p and x, and of q, is 0.
func rootsByTrying(p, q impl.Nimber) []impl.Nimber {
	var roots []impl.Nimber
	for x := range all {
		if theOracle().times(x, x)^theOracle().times(p, x)^q == 0 {
			roots = append(roots, x)
		}
	}
	return roots
}

func TestQuadraticRootsAreAll(t *testing.T) {
	for _, p := range []impl.Nimber{0, 1, 2, 3, 7, 16, 200, 256, 300, 32768, 65535} {
		for _, q := range []impl.Nimber{0, 1, 2, 5, 16, 129, 256, 4321, 32768, 65534, 65535} {
			if got, want := impl.QuadraticRoots(p, q), rootsByTrying(p, q); !slices.Equal(got, want) {
				t.Errorf("QuadraticRoots(%d, %d) = %v, want %v", p, q, got, want)
			}
		}
	}
}

func TestQuadraticRootsAreRoots(t *testing.T) {
	counts := [3]int{}
	for p := range impl.Nimber(64) {
		for q := impl.Nimber(0); q < 64000; q += 1009 {
			roots := impl.QuadraticRoots(p, q)
			for _, x := range roots {
				if impl.SquareOf(x)^impl.TimesNim(p, x)^q != 0 {
					t.Errorf("%d is no root for %d and %d", x, p, q)
				}
			}
			if len(roots) > 2 || len(roots) == 2 && roots[0] >= roots[1] || (len(roots) == 1) != (p == 0) {
				t.Fatalf("QuadraticRoots(%d, %d) = %v", p, q, roots)
			}
			counts[len(roots)]++
		}
	}
	if counts[0] == 0 || counts[1] != 64 || counts[2] == 0 {
		t.Errorf("there are %v equations with 0, 1 and 2 roots", counts)
	}
}

func TestQuadraticRootsOfChosenRoots(t *testing.T) {
	o := theOracle()
	for _, x := range samples() {
		for b := 0; b < 65536; b += 251 {
			y := impl.Nimber(b)
			want := slices.Compact([]impl.Nimber{min(x, y), max(x, y)})
			if got := impl.QuadraticRoots(x^y, o.times(x, y)); !slices.Equal(got, want) {
				t.Fatalf("the equation of the roots %d and %d has %v", x, y, got)
			}
		}
	}
}
