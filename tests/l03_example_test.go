package tests

import (
	"slices"
	"testing"

	"loop.example/g01307/impl"
)

func TestGameExample(t *testing.T) {
	g := gameOf(t, "- 0 0,1 1,2")
	if values, code := impl.ValuesOf(g); !slices.Equal(values, []impl.Nimber{0, 1, 2, 0}) || code != impl.OK {
		t.Errorf("ValuesOf = %v, %d", values, code)
	}
	if sum, code := impl.SumAt(g, []int64{1, 2}); sum != 3 || code != impl.OK {
		t.Errorf("SumAt = %d, %d", sum, code)
	}
	if moves, code := impl.WinningMoves(g, []int64{1, 2}); !slices.Equal(moves, [][2]int64{{1, 1}}) || code != impl.OK {
		t.Errorf("WinningMoves = %v, %d", moves, code)
	}
}

func TestTakeExample(t *testing.T) {
	want := []impl.Nimber{0, 1, 2, 3, 0, 1, 2, 3, 0, 1}
	if values, code := impl.TakeValues(14, 9); !slices.Equal(values, want) || code != impl.OK {
		t.Errorf("TakeValues = %v, %d", values, code)
	}
	if start, period, code := impl.TakePeriod(14); start != 0 || period != 4 || code != impl.OK {
		t.Errorf("TakePeriod = %d, %d, %d", start, period, code)
	}
}

func TestOctalExample(t *testing.T) {
	if values, code := impl.OctalValues([]uint8{7, 7}, 5); !slices.Equal(values, []impl.Nimber{0, 1, 2, 3, 1, 4}) || code != impl.OK {
		t.Errorf("OctalValues = %v, %d", values, code)
	}
	if moves, code := impl.OctalMoves([]uint8{7, 7}, 2); !slices.Equal(moves, [][2]int64{{0, 0}, {0, 1}}) || code != impl.OK {
		t.Errorf("OctalMoves = %v, %d", moves, code)
	}
}

func TestGameConstants(t *testing.T) {
	got := []int64{impl.MaxPlaces, impl.MaxHeap, impl.MaxHeaps, impl.MaxDigits}
	if want := []int64{60, 500, 12, 8}; !slices.Equal(got, want) {
		t.Errorf("constants are %v, want %v", got, want)
	}
}
