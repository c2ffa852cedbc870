package tests

import (
	"slices"
	"testing"

	"loop.example/g01307/impl"
)

func TestNimberExampleProducts(t *testing.T) {
	for _, c := range [][3]impl.Nimber{{2, 2, 3}, {2, 3, 1}, {4, 2, 8}, {4, 4, 6}, {16, 16, 24}} {
		if got := impl.TimesNim(c[0], c[1]); got != c[2] {
			t.Errorf("TimesNim(%d, %d) = %d, want %d", c[0], c[1], got, c[2])
		}
	}
}

func TestNimberExampleField(t *testing.T) {
	if a, code := impl.InverseOf(2); a != 3 || code != impl.OK {
		t.Errorf("InverseOf(2) = %d, %d", a, code)
	}
	if a := impl.RootOf(3); a != 2 {
		t.Errorf("RootOf(3) = %d", a)
	}
	if n, code := impl.OrderOf(2); n != 3 || code != impl.OK {
		t.Errorf("OrderOf(2) = %d, %d", n, code)
	}
	if level := impl.LevelOf(16); level != 3 {
		t.Errorf("LevelOf(16) = %d", level)
	}
	if a, code := impl.LeastGenerator(1); a != 2 || code != impl.OK {
		t.Errorf("LeastGenerator(1) = %d, %d", a, code)
	}
}

func TestNimberExampleEquationAndMove(t *testing.T) {
	if roots := impl.QuadraticRoots(1, 1); !slices.Equal(roots, []impl.Nimber{2, 3}) {
		t.Errorf("QuadraticRoots(1, 1) = %v", roots)
	}
	if i, to, code := impl.LeadingMove([]impl.Nimber{3, 4, 5}); i != 0 || to != 1 || code != impl.OK {
		t.Errorf("LeadingMove of 3, 4 and 5 = %d, %d, %d", i, to, code)
	}
}

func TestConstants(t *testing.T) {
	got := []int64{impl.OK, impl.ErrInvalid, impl.ErrRange, impl.ErrLimit, impl.ErrState, impl.ErrSyntax, impl.ErrNotFound, impl.ErrBudget, impl.ErrProof, impl.MaxLevel, impl.MaxList}
	if want := []int64{0, 1, 2, 3, 4, 5, 6, 7, 8, 4, 1000}; !slices.Equal(got, want) {
		t.Errorf("constants are %v, want %v", got, want)
	}
}
