package tests

import (
	"fmt"
	"runtime"
	"slices"
	"testing"

	"loop.example/g01307/impl"
)

// Promise 6: solutions are solutions, and kernels are sent to 0; and what reducing makes of the rows.

// equationTables are those of all sizes, and all small ones.
func equationTables() []table {
	list := tables()
	for _, more := range [][]table{smallTables(1, 3, 4), smallTables(2, 2, 4), smallTables(2, 3, 3), smallTables(3, 2, 3), smallTables(3, 3, 2)} {
		list = append(list, more...)
	}
	return list
}

func TestReducedMatrices(t *testing.T) {
	for _, a := range equationTables() {
		reduced, code := impl.ReduceMatrix(matrixOf(a))
		if code != impl.OK || !impl.ValidMatrix(reduced) || int(reduced.Rows) != len(a) || int(reduced.Cols) != len(a[0]) {
			t.Errorf("ReduceMatrix of %v = %s, %d", a, shown(reduced), code)
			continue
		}
		rows := tableOf(reduced)
		if !isReducedTable(rows) {
			t.Errorf("ReduceMatrix of %v = %v, which is not reduced", a, rows)
		}
		rank := rankOfTable(a, len(a[0]))
		if rankOfTable(rows, len(a[0])) != rank {
			t.Errorf("ReduceMatrix of %v = %v, which has another rank", a, rows)
		}
		// Each row has to be a sum of rows of a: it adds nothing to the rank.
		for _, row := range rows {
			if rankOfTable(append(slices.Clone(a), row), len(a[0])) != rank {
				t.Errorf("ReduceMatrix of %v = %v, in which %v comes from elsewhere", a, rows, row)
			}
		}
	}
}

func TestReducedAgain(t *testing.T) {
	for _, a := range equationTables() {
		reduced, _ := impl.ReduceMatrix(matrixOf(a))
		again, code := impl.ReduceMatrix(reduced)
		wantMatrix(t, fmt.Sprint("ReduceMatrix twice of ", a), again, code, reduced)
		if is, code := impl.IsReduced(reduced); !is || code != impl.OK {
			t.Errorf("IsReduced of what ReduceMatrix makes of %v = %v, %d", a, is, code)
		}
	}
}

// What is done to the rows does not change what comes out.
func TestReducedInOneWayAlone(t *testing.T) {
	for _, a := range equationTables() {
		m := matrixOf(a)
		want, _ := impl.ReduceMatrix(m)
		if m.Rows > 1 {
			m, _ = impl.SwapRows(m, 0, int64(m.Rows)-1)
			m, _ = impl.AddRow(m, 0, 1, 77)
			m, _ = impl.AddRow(m, int64(m.Rows)-1, 0, 65535)
		}
		m, _ = impl.ScaleMatrix(m, 3)
		got, code := impl.ReduceMatrix(m)
		wantMatrix(t, fmt.Sprint("ReduceMatrix of changed rows of ", a), got, code, want)
	}
}

func TestIsReduced(t *testing.T) {
	yes := 0
	for _, a := range append(equationTables(), smallTables(3, 3, 3)...) {
		want := isReducedTable(a)
		if want {
			yes++
		}
		if got, code := impl.IsReduced(matrixOf(a)); got != want || code != impl.OK {
			t.Errorf("IsReduced of %v = %v, %d", a, got, code)
		}
	}
	if yes < 100 {
		t.Errorf("only %d matrices are reduced", yes)
	}
	for text, want := range map[string]bool{
		"*0": true, "*1": true, "*2": false, "*65535": false,
		"*1 *0;*0 *1": true, "*0 *1;*1 *0": false, "*1 *2;*0 *1": false, "*1 *0;*0 *2": false, "*1 *0;*1 *1": false,
		"*0 *0;*0 *1": false, "*0 *1;*0 *0": true, "*0 *1;*0 *1": false, "*1 *300 *0;*0 *0 *1": true, "*0 *1 *5 *0;*0 *0 *0 *1;*0 *0 *0 *0": true,
		"*1 *0 *0;*0 *0 *0;*0 *0 *1": false, "*0 *0 *0 *0 *0 *1": true, "*0;*0;*0;*0;*0;*1": false, "*1;*0;*0;*0;*0;*0": true,
	} {
		if got, code := impl.IsReduced(read(t, text)); got != want || code != impl.OK {
			t.Errorf("IsReduced of %s = %v, %d", text, got, code)
		}
	}
}

func TestRanks(t *testing.T) {
	for _, a := range equationTables() {
		want := int64(rankOfTable(a, len(a[0])))
		if got, code := impl.RankOf(matrixOf(a)); got != want || code != impl.OK {
			t.Errorf("RankOf %v = %d, %d, want %d", a, got, code, want)
		}
		turned, _ := impl.TurnMatrix(matrixOf(a))
		if got, code := impl.RankOf(turned); got != want || code != impl.OK {
			t.Errorf("the rank of %v, turned, is %d, %d, want %d", a, got, code, want)
		}
	}
}

// checkSolved checks what SolveMatrix returns: a solution that has 0 in free columns, of which there is one alone, or none if there is none.
func checkSolved(t *testing.T, a table, free []int, v impl.Vector) bool {
	t.Helper()
	x, code := impl.SolveMatrix(matrixOf(a), v)
	if code != impl.OK {
		if code != impl.ErrNotFound || x != (impl.Vector{}) || rankOfTable(beside(a, v), len(a[0])+1) == rankOfTable(a, len(a[0])) {
			t.Errorf("SolveMatrix of %v and %v = %v, %d", a, v, x, code)
		}
		return false
	}
	if applyTable(a, x) != v {
		t.Errorf("SolveMatrix of %v and %v = %v, which is no solution", a, v, x)
	}
	for col, cell := range x {
		if cell != 0 && (col >= len(a[0]) || slices.Contains(free, col)) {
			t.Errorf("SolveMatrix of %v and %v = %v, the columns %v being free", a, v, x, free)
		}
	}
	if same, code := impl.CheckSolution(matrixOf(a), x, v); !same || code != impl.OK {
		t.Errorf("CheckSolution of %v, %v and %v = %v, %d", a, x, v, same, code)
	}
	return true
}

func TestSolutions(t *testing.T) {
	d := dice(4)
	found, none := 0, 0
	for _, a := range equationTables() {
		free := freeColumns(a)
		somewhere := applyTable(a, d.vector(len(a[0]), 65536))
		if !checkSolved(t, a, free, somewhere) {
			t.Errorf("SolveMatrix of %v and %v finds nothing, though there is a solution", a, somewhere)
		}
		for _, v := range []impl.Vector{{}, d.vector(len(a), 2), d.vector(len(a), 65536)} {
			if checkSolved(t, a, free, v) {
				found++
			} else {
				none++
			}
		}
	}
	if found < 100 || none < 100 {
		t.Errorf("%d equations have a solution, and %d have none: the test shows little", found, none)
	}
}

func TestAllSmallSolutions(t *testing.T) {
	for _, size := range [][2]int{{1, 1}, {1, 2}, {2, 1}, {2, 2}} {
		for _, a := range smallTables(size[0], size[1], 4) {
			// Products and sums of 0 to 3 are such ones, and so are solutions, if there is one.
			sent := map[impl.Vector]bool{}
			for _, x := range smallTables(1, size[1], 4) {
				sent[applyTable(a, vectorOf(x[0]))] = true
			}
			for _, v := range smallTables(1, size[0], 4) {
				if found := checkSolved(t, a, freeColumns(a), vectorOf(v[0])); found != sent[vectorOf(v[0])] {
					t.Errorf("SolveMatrix of %v and %v finds one: %v", a, v[0], found)
				}
			}
		}
	}
}

func vectorOf(list []impl.Nimber) impl.Vector {
	var v impl.Vector
	copy(v[:], list)
	return v
}

func TestSolutionsWithFreeColumns(t *testing.T) {
	for _, c := range []struct {
		text string
		v, x impl.Vector
		code int64
	}{
		{"*1 *2", impl.Vector{5}, impl.Vector{5}, impl.OK},
		{"*0 *1 *2", impl.Vector{5}, impl.Vector{0, 5}, impl.OK},
		{"*0 *0 *2", impl.Vector{1}, impl.Vector{0, 0, 3}, impl.OK},
		{"*0 *1 *7 *0;*0 *0 *0 *1", impl.Vector{8, 9}, impl.Vector{0, 8, 0, 9}, impl.OK},
		{"*0 *0 *0 *0 *0 *1", impl.Vector{65535}, impl.Vector{0, 0, 0, 0, 0, 65535}, impl.OK},
		{"*0", impl.Vector{}, impl.Vector{}, impl.OK},
		{"*0", impl.Vector{1}, impl.Vector{}, impl.ErrNotFound},
		{"*0 *0;*0 *0", impl.Vector{}, impl.Vector{}, impl.OK},
		{"*1;*2", impl.Vector{2, 3}, impl.Vector{2}, impl.OK},
		{"*1;*2", impl.Vector{2, 2}, impl.Vector{}, impl.ErrNotFound},
		{"*1 *2;*2 *3", impl.Vector{1, 2}, impl.Vector{1}, impl.OK},
		{"*1 *2;*2 *3", impl.Vector{1, 0}, impl.Vector{}, impl.ErrNotFound},
		{"*0;*0;*0;*0;*0;*1", impl.Vector{0, 0, 0, 0, 0, 4}, impl.Vector{4}, impl.OK},
		{"*0;*0;*0;*0;*0;*1", impl.Vector{0, 0, 0, 0, 1, 4}, impl.Vector{}, impl.ErrNotFound},
	} {
		if x, code := impl.SolveMatrix(read(t, c.text), c.v); x != c.x || code != c.code {
			t.Errorf("SolveMatrix of %s and %v = %v, %d, want %v, %d", c.text, c.v, x, code, c.x, c.code)
		}
	}
}

func TestCheckSolution(t *testing.T) {
	d := dice(5)
	for _, a := range tables() {
		x := d.vector(len(a[0]), 65536)
		v := applyTable(a, x)
		if same, code := impl.CheckSolution(matrixOf(a), x, v); !same || code != impl.OK {
			t.Errorf("CheckSolution of %v, %v and %v = %v, %d", a, x, v, same, code)
		}
		for i := range a {
			other := v
			other[i] ^= impl.Nimber(1 + d.next(65535))
			if same, code := impl.CheckSolution(matrixOf(a), x, other); same || code != impl.OK {
				t.Errorf("CheckSolution of %v, %v and %v = %v, %d", a, x, other, same, code)
			}
		}
	}
}

// wantJoined checks that there are no more goroutines than before calls: those that are not joined would be more and more.
func wantJoined(t *testing.T, before int) {
	t.Helper()
	for tries := 0; runtime.NumGoroutine() > before && tries < 1000000; tries++ {
		runtime.Gosched()
	}
	if after := runtime.NumGoroutine(); after > before {
		t.Errorf("%d goroutines before, and %d after", before, after)
	}
}

func TestCheckSolutionLeavesNothingBehind(t *testing.T) {
	m := matrixOf(oneTable(6))
	before := runtime.NumGoroutine()
	for n := range 2000 {
		x, v := impl.Vector{1, 2, 3, 4, 5, 6}, impl.Vector{1, 2, 3, 4, 5, 6}
		v[n%6] = 9
		impl.CheckSolution(m, x, v)
		impl.CheckSolution(m, x, x)
	}
	wantJoined(t, before)
}

func TestKernels(t *testing.T) {
	long := 0
	for _, a := range equationTables() {
		free := freeColumns(a)
		kernel, code := impl.KernelOf(matrixOf(a))
		if code != impl.OK || len(kernel) != len(free) {
			t.Errorf("KernelOf %v = %v, %d, the columns %v being free", a, kernel, code, free)
			continue
		}
		if len(kernel) > 2 {
			long++
		}
		for i, v := range kernel {
			if applyTable(a, v) != (impl.Vector{}) {
				t.Errorf("KernelOf %v has %v, which is not sent to 0", a, v)
			}
			if product, code := impl.ApplyMatrix(matrixOf(a), v); product != (impl.Vector{}) || code != impl.OK {
				t.Errorf("ApplyMatrix of %v and %v of the kernel = %v, %d", a, v, product, code)
			}
			for j, col := range free {
				if own := j == i; own && v[col] != 1 || !own && v[col] != 0 {
					t.Errorf("KernelOf %v = %v, the columns %v being free", a, kernel, free)
				}
			}
		}
	}
	if long < 20 {
		t.Errorf("only %d kernels have more than two vectors", long)
	}
}

func TestKernelsByHand(t *testing.T) {
	for text, want := range map[string][]impl.Vector{
		"*0":                      {{1}},
		"*7":                      nil,
		"*0 *0":                   {{1}, {0, 1}},
		"*2 *2":                   {{1, 1}},
		"*1 *2 *3":                {{2, 1}, {3, 0, 1}},
		"*0 *1 *7":                {{1}, {0, 7, 1}},
		"*1 *5 *0 *6;*0 *0 *1 *9": {{5, 1}, {6, 0, 9, 1}},
		"*1;*0":                   nil,
		"*0;*0":                   {{1}},
		"*1 *2;*2 *3;*3 *1":       {{2, 1}},
		"*0 *0 *0 *0 *0 *1":       {{1}, {0, 1}, {0, 0, 1}, {0, 0, 0, 1}, {0, 0, 0, 0, 1}},
		"*1 *0;*0 *1;*0 *0;*0 *0": nil,
		"*0 *0;*1 *4;*0 *0":       {{4, 1}},
	} {
		if kernel, code := impl.KernelOf(read(t, text)); !slices.Equal(kernel, want) || code != impl.OK {
			t.Errorf("KernelOf %s = %v, %d, want %v", text, kernel, code, want)
		}
	}
}

func TestReducedMatricesHaveTheSameKernel(t *testing.T) {
	for _, a := range equationTables() {
		kernel, _ := impl.KernelOf(matrixOf(a))
		reduced, _ := impl.ReduceMatrix(matrixOf(a))
		if other, code := impl.KernelOf(reduced); !slices.Equal(kernel, other) || code != impl.OK {
			t.Errorf("KernelOf %v = %v, and of the reduced matrix %v", a, kernel, other)
		}
	}
}

func TestAddedRows(t *testing.T) {
	o := theOracle()
	for _, a := range tables() {
		for from := range a {
			for to := range a {
				if from == to {
					continue
				}
				for _, by := range []impl.Nimber{0, 1, 300} {
					want := matrixOf(a)
					for col := range a[0] {
						want.Cells[to][col] ^= o.times(a[from][col], by)
					}
					got, code := impl.AddRow(matrixOf(a), int64(from), int64(to), by)
					wantMatrix(t, fmt.Sprint("AddRow of ", a, from, to, by), got, code, want)
				}
			}
		}
	}
}

func TestSwappedRows(t *testing.T) {
	for _, a := range tables() {
		for i := range a {
			for j := range a {
				want := slices.Clone(a)
				want[i], want[j] = a[j], a[i]
				got, code := impl.SwapRows(matrixOf(a), int64(i), int64(j))
				wantMatrix(t, fmt.Sprint("SwapRows of ", a, i, j), got, code, matrixOf(want))
			}
		}
	}
}
