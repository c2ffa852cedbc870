package tests

import (
	"slices"
	"testing"

	"loop.example/g01307/impl"
)

func TestMatrixExample(t *testing.T) {
	m := read(t, "*1 *2;*2 *1")
	if want := (impl.Matrix{Rows: 2, Cols: 2, Cells: [6][6]impl.Nimber{{1, 2}, {2, 1}}}); m != want {
		t.Errorf("the matrix is %s", shown(m))
	}
	if determinant, code := impl.DeterminantOf(m); determinant != 2 || code != impl.OK {
		t.Errorf("DeterminantOf = %d, %d", determinant, code)
	}
	if rank, code := impl.RankOf(m); rank != 2 || code != impl.OK {
		t.Errorf("RankOf = %d, %d", rank, code)
	}
	if inverse, code := impl.InverseMatrix(m); impl.MatrixText(inverse) != "*3 *1;*1 *3" || code != impl.OK {
		t.Errorf("InverseMatrix = %s, %d", shown(inverse), code)
	}
	if x, code := impl.SolveMatrix(m, impl.Vector{1, 0}); x != (impl.Vector{3, 1}) || code != impl.OK {
		t.Errorf("SolveMatrix = %v, %d", x, code)
	}
}

func TestKernelExample(t *testing.T) {
	if kernel, code := impl.KernelOf(read(t, "*1 *2")); !slices.Equal(kernel, []impl.Vector{{2, 1}}) || code != impl.OK {
		t.Errorf("KernelOf = %v, %d", kernel, code)
	}
}

func TestPowersMatrixExample(t *testing.T) {
	if m, code := impl.PowersMatrix([]impl.Nimber{2, 3}, 2); impl.MatrixText(m) != "*1 *2;*1 *3" || code != impl.OK {
		t.Errorf("PowersMatrix = %s, %d", shown(m), code)
	}
}

func TestMaxSide(t *testing.T) {
	if impl.MaxSide != 6 {
		t.Errorf("MaxSide is %d", impl.MaxSide)
	}
}
