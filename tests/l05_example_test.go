package tests

import (
	"slices"
	"testing"

	"loop.example/g01307/impl"
)

// polyOf is the polynomial with a text that has to be one.
func polyOf(t *testing.T, text string) impl.Poly {
	t.Helper()
	p, code := impl.ReadPoly(text)
	if code != impl.OK {
		t.Fatalf("ReadPoly(%q) = %d", text, code)
	}
	return p
}

// wantText checks a polynomial by its text.
func wantText(t *testing.T, name string, p impl.Poly, code int64, want string) {
	t.Helper()
	if text := impl.PolyText(p); code != impl.OK || text != want {
		t.Errorf("%s = %s, %d, want %s", name, text, code, want)
	}
}

func TestPolynomialsExample(t *testing.T) {
	product, code := impl.TimesPoly(polyOf(t, "*1 *1"), polyOf(t, "*2 *1"))
	wantText(t, "TimesPoly", product, code, "*2 *3 *1")
	quotient, rest, code := impl.DividePoly(product, polyOf(t, "*1 *1"))
	wantText(t, "the quotient", quotient, code, "*2 *1")
	wantText(t, "the rest", rest, code, "0")
}

func TestRootsExample(t *testing.T) {
	roots, code := impl.RootsIn(polyOf(t, "*2 *3 *1"), 1)
	if code != impl.OK || !slices.Equal(roots, []impl.Nimber{1, 2}) {
		t.Errorf("RootsIn = %v, %d", roots, code)
	}
	least := impl.MinimalPoly(2)
	wantText(t, "MinimalPoly", least, impl.OK, "*1 *1 *1")
	slope, code := impl.SlopeOf(least)
	wantText(t, "SlopeOf", slope, code, "*1")
	through, code := impl.PolyThrough([]impl.Spot{{X: 0, Y: 1}, {X: 1, Y: 3}})
	wantText(t, "PolyThrough", through, code, "*1 *2")
	root, code := impl.RootOfPoly(polyOf(t, "*3 *0 *1"))
	wantText(t, "RootOfPoly", root, code, "*2 *1")
}

func TestPolynomialConstants(t *testing.T) {
	if impl.MaxDegree != 20 {
		t.Errorf("MaxDegree = %d", impl.MaxDegree)
	}
}
