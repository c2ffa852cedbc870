package tests

import (
	"fmt"
	"math"
	"reflect"
	"slices"
	"testing"

	"loop.example/g01307/impl"
)

// Promise 1 for the functions of chapter 2: they return for all arguments, modify none, depend on nothing else, and return zero values with errors.

// called is what a function returned.
type called struct {
	name   string
	result any
	code   int64
}

func call[R any](name string, result R, code int64) called { return called{name, result, code} }

// wantCode checks the code, and that there is no result with an error.
func (c called) wantCode(t *testing.T, about string, code int64) {
	t.Helper()
	result := reflect.ValueOf(c.result)
	empty := result.IsZero() || result.Kind() == reflect.Slice && result.Len() == 0
	if c.code != code || code != impl.OK && !empty {
		t.Errorf("%s of %s = %v, %d, want the code %d", c.name, about, c.result, c.code, code)
	}
}

// matrixCalls calls all functions of a matrix and of what has to be fine for it, numbers being those of rows, or exponents.
func matrixCalls(m impl.Matrix, v impl.Vector, a, b int64) []called {
	var list []called
	add := func(c called) { list = append(list, c) }
	plus, code := impl.PlusMatrix(m, m)
	add(call("PlusMatrix", plus, code))
	times, code := impl.TimesMatrix(m, m)
	add(call("TimesMatrix", times, code))
	scaled, code := impl.ScaleMatrix(m, 7)
	add(call("ScaleMatrix", scaled, code))
	turned, code := impl.TurnMatrix(m)
	add(call("TurnMatrix", turned, code))
	applied, code := impl.ApplyMatrix(m, v)
	add(call("ApplyMatrix", applied, code))
	power, code := impl.PowerMatrix(m, a)
	add(call("PowerMatrix", power, code))
	reduced, code := impl.ReduceMatrix(m)
	add(call("ReduceMatrix", reduced, code))
	is, code := impl.IsReduced(m)
	add(call("IsReduced", is, code))
	rank, code := impl.RankOf(m)
	add(call("RankOf", rank, code))
	determinant, code := impl.DeterminantOf(m)
	add(call("DeterminantOf", determinant, code))
	inverse, code := impl.InverseMatrix(m)
	add(call("InverseMatrix", inverse, code))
	solution, code := impl.SolveMatrix(m, v)
	add(call("SolveMatrix", solution, code))
	same, code := impl.CheckSolution(m, v, v)
	add(call("CheckSolution", same, code))
	kernel, code := impl.KernelOf(m)
	add(call("KernelOf", kernel, code))
	added, code := impl.AddRow(m, a, b, 5)
	add(call("AddRow", added, code))
	swapped, code := impl.SwapRows(m, a, b)
	add(call("SwapRows", swapped, code))
	trace, code := impl.TraceMatrix(m)
	add(call("TraceMatrix", trace, code))
	return list
}

// invalidMatrices are those with sides that are none, and those with a cell that is behind the last row or column.
func invalidMatrices() []impl.Matrix {
	list := []impl.Matrix{{}, {Rows: 1}, {Cols: 1}, {Rows: 0, Cols: 6}, {Rows: 6, Cols: 0}}
	for _, side := range []int8{-128, -6, -1, 0, 7, 8, 66, 127} {
		list = append(list, impl.Matrix{Rows: side, Cols: 1}, impl.Matrix{Rows: 1, Cols: side}, impl.Matrix{Rows: side, Cols: side})
		full := impl.Matrix{Rows: side, Cols: side}
		for i := range full.Cells {
			full.Cells[i] = [6]impl.Nimber{1, 2, 3, 4, 5, 6}
		}
		list = append(list, full)
	}
	for side := int8(1); side < impl.MaxSide; side++ {
		for _, behind := range []int8{side, impl.MaxSide - 1} {
			for _, cell := range []impl.Nimber{1, 65535} {
				low, right, tall, wide := matrixOf(oneTable(int(side))), matrixOf(oneTable(int(side))), matrixOf(newTable(6, int(side))), matrixOf(newTable(int(side), 6))
				low.Cells[behind][0] = cell
				right.Cells[0][behind] = cell
				tall.Cells[5][behind] = cell
				wide.Cells[behind][5] = cell
				list = append(list, low, right, tall, wide)
			}
		}
	}
	return list
}

func TestValidMatrix(t *testing.T) {
	for _, a := range tables() {
		if !impl.ValidMatrix(matrixOf(a)) {
			t.Errorf("ValidMatrix of %v is false", a)
		}
	}
	for _, m := range invalidMatrices() {
		if impl.ValidMatrix(m) {
			t.Errorf("ValidMatrix of %s is true", shown(m))
		}
	}
}

// ErrInvalid comes before all other errors, so the numbers and vectors are bad ones, too.
func TestInvalidMatrices(t *testing.T) {
	for _, m := range invalidMatrices() {
		for _, c := range slices.Concat(matrixCalls(m, impl.Vector{}, 0, 1), matrixCalls(m, impl.Vector{1, 2, 3, 4, 5, 6}, -1, 6), matrixCalls(m, impl.Vector{}, math.MaxInt64, math.MinInt64)) {
			c.wantCode(t, shown(m), impl.ErrInvalid)
		}
		for _, other := range []impl.Matrix{matrixOf(oneTable(1)), matrixOf(oneTable(6)), matrixOf(newTable(2, 3))} {
			left, one := impl.PlusMatrix(m, other)
			right, two := impl.PlusMatrix(other, m)
			call("PlusMatrix", left, one).wantCode(t, shown(m), impl.ErrInvalid)
			call("PlusMatrix", right, two).wantCode(t, shown(m), impl.ErrInvalid)
			left, one = impl.TimesMatrix(m, other)
			right, two = impl.TimesMatrix(other, m)
			call("TimesMatrix", left, one).wantCode(t, shown(m), impl.ErrInvalid)
			call("TimesMatrix", right, two).wantCode(t, shown(m), impl.ErrInvalid)
		}
		if text := impl.MatrixText(m); text != "" {
			t.Errorf("MatrixText of %s = %q", shown(m), text)
		}
	}
}

func TestInvalidVectors(t *testing.T) {
	for rows := 1; rows <= impl.MaxSide; rows++ {
		for cols := 1; cols <= impl.MaxSide; cols++ {
			m := matrixOf(newTable(rows, cols))
			for at := range impl.MaxSide {
				v := impl.Vector{}
				v[at] = 1
				forCols, forRows := int64(impl.ErrInvalid), int64(impl.ErrInvalid)
				if at < cols {
					forCols = impl.OK
				}
				solved := int64(impl.ErrInvalid)
				if at < rows {
					forRows, solved = impl.OK, impl.ErrNotFound // nothing but 0 comes out of a matrix of zeros
				}
				about := fmt.Sprint(rows, " x ", cols, " ", v)
				product, code := impl.ApplyMatrix(m, v)
				call("ApplyMatrix", product, code).wantCode(t, about, forCols)
				x, code := impl.SolveMatrix(m, v)
				call("SolveMatrix", x, code).wantCode(t, about, solved)
				same, code := impl.CheckSolution(m, v, impl.Vector{})
				call("CheckSolution", same, code).wantCode(t, about+" as x", forCols)
				if same != (forCols == impl.OK) {
					t.Errorf("CheckSolution of %s as x = %v", about, same)
				}
				same, code = impl.CheckSolution(m, impl.Vector{}, v)
				call("CheckSolution", same, code).wantCode(t, about+" as v", forRows)
				if same {
					t.Errorf("CheckSolution of %s as v is true", about)
				}
			}
		}
	}
}

func TestSidesOfOneMatrix(t *testing.T) {
	for _, side := range []int64{math.MinInt64, -257, -1, 0, 7, 8, 256, 257, 262, 1 << 32, 1<<32 + 1, math.MaxInt64} {
		m, code := impl.OneMatrix(side)
		call("OneMatrix", m, code).wantCode(t, fmt.Sprint(side), impl.ErrRange)
	}
}

func TestSizesThatDiffer(t *testing.T) {
	for i := range 36 {
		for j := range 36 {
			a, b := matrixOf(newTable(i/6+1, i%6+1)), matrixOf(newTable(j/6+1, j%6+1))
			about := shown(a) + " and " + shown(b)
			sum, code := impl.PlusMatrix(a, b)
			want := int64(impl.ErrState)
			if i == j {
				want = impl.OK
			}
			call("PlusMatrix", sum, code).wantCode(t, about, want)
			product, code := impl.TimesMatrix(a, b)
			want = impl.ErrState
			if i%6 == j/6 {
				want = impl.OK
			}
			call("TimesMatrix", product, code).wantCode(t, about, want)
		}
	}
}

func TestSquaresAreNeeded(t *testing.T) {
	for rows := 1; rows <= impl.MaxSide; rows++ {
		for cols := 1; cols <= impl.MaxSide; cols++ {
			m := matrixOf(newTable(rows, cols))
			want, inverted := int64(impl.ErrState), int64(impl.ErrState)
			if rows == cols {
				want, inverted = impl.OK, impl.ErrNotFound
			}
			for _, n := range []int64{0, 1, 2, 1000000} {
				power, code := impl.PowerMatrix(m, n)
				call("PowerMatrix", power, code).wantCode(t, shown(m), want)
			}
			for _, n := range []int64{math.MinInt64, -1, 1000001, 1 << 32, math.MaxInt64} {
				power, code := impl.PowerMatrix(m, n)
				call("PowerMatrix", power, code).wantCode(t, fmt.Sprint(shown(m), n), impl.ErrRange)
			}
			determinant, code := impl.DeterminantOf(m)
			call("DeterminantOf", determinant, code).wantCode(t, shown(m), want)
			inverse, code := impl.InverseMatrix(m)
			call("InverseMatrix", inverse, code).wantCode(t, shown(m), inverted)
			trace, code := impl.TraceMatrix(m)
			call("TraceMatrix", trace, code).wantCode(t, shown(m), want)
		}
	}
}

func TestRowsThatAreNone(t *testing.T) {
	for rows := int64(1); rows <= impl.MaxSide; rows++ {
		m := matrixOf(newTable(int(rows), 2))
		for _, bad := range []int64{math.MinInt64, -256, -1, rows, 6, 7, 256, 1 << 32, math.MaxInt64} {
			for _, pair := range [][2]int64{{bad, 0}, {0, bad}, {bad, rows - 1}, {rows - 1, bad}, {bad, bad}} {
				about := fmt.Sprint(shown(m), pair)
				added, code := impl.AddRow(m, pair[0], pair[1], 1)
				call("AddRow", added, code).wantCode(t, about, impl.ErrRange)
				swapped, code := impl.SwapRows(m, pair[0], pair[1])
				call("SwapRows", swapped, code).wantCode(t, about, impl.ErrRange)
			}
		}
		for i := range rows {
			added, code := impl.AddRow(m, i, i, 0)
			call("AddRow", added, code).wantCode(t, fmt.Sprint(shown(m), i, " twice"), impl.ErrState)
		}
	}
}

func TestPowersMatrixLimits(t *testing.T) {
	lists := [][]impl.Nimber{nil, {}, make([]impl.Nimber, 7), make([]impl.Nimber, 257), make([]impl.Nimber, 1000000), make([]impl.Nimber, 3, 10), {5}, {0, 1, 2, 3, 4, 5}}
	for _, list := range lists {
		for _, cols := range []int64{math.MinInt64, -255, -1, 0, 1, 2, 6, 7, 256, 258, 1<<32 + 1, math.MaxInt64} {
			m, code := impl.PowersMatrix(list, cols)
			want := int64(impl.OK)
			if len(list) < 1 || len(list) > 6 || cols < 1 || cols > 6 {
				want = impl.ErrRange
			}
			call("PowersMatrix", m, code).wantCode(t, fmt.Sprint(len(list), " nimbers and ", cols), want)
			if valid := impl.ValidMatrix(m); valid != (want == impl.OK) {
				t.Errorf("PowersMatrix of %d nimbers and %d is valid: %v", len(list), cols, valid)
			}
		}
	}
}

// What is returned without an error is valid, and behind the cells that are asked for there is nothing.
func TestResultsAreValid(t *testing.T) {
	for _, a := range tables() {
		m := matrixOf(a)
		v := vectorOf([]impl.Nimber{300})
		for _, c := range matrixCalls(m, v, 0, int64(m.Rows)-1) {
			result, isMatrix := c.result.(impl.Matrix)
			if isMatrix && c.code == impl.OK && !impl.ValidMatrix(result) {
				t.Errorf("%s of %v = %s, which is not valid", c.name, a, shown(result))
			}
			if !slices.Contains([]int64{impl.OK, impl.ErrState, impl.ErrNotFound}, c.code) {
				t.Errorf("%s of %v = %v, %d", c.name, a, c.result, c.code)
			}
		}
	}
}

func matrixResults() string {
	text := ""
	for i, a := range tables() {
		if i%7 == 0 {
			m := matrixOf(a)
			text += fmt.Sprintln(matrixCalls(m, impl.Vector{1}, 0, int64(m.Rows)-1), impl.MatrixText(m), impl.ValidMatrix(m))
		}
	}
	return text
}

func TestEqualMatricesHaveEqualResults(t *testing.T) {
	if matrixResults() != matrixResults() {
		t.Errorf("the second time there are other results")
	}
	wantSameAtOnce(t, matrixResults)
}

func TestPowersMatrixLeavesItsList(t *testing.T) {
	whole := []impl.Nimber{2, 3, 4, 5, 6, 7, 8, 9, 10}
	for length := range 8 {
		first, one := impl.PowersMatrix(whole[:length], 6)
		again, two := impl.PowersMatrix(slices.Clip(slices.Clone(whole[:length])), 6)
		if first != again || one != two {
			t.Errorf("PowersMatrix of %d nimbers depends on the capacity", length)
		}
	}
	if !slices.Equal(whole, []impl.Nimber{2, 3, 4, 5, 6, 7, 8, 9, 10}) {
		t.Errorf("PowersMatrix made %v of its list", whole)
	}
}

func TestKernelsAreNew(t *testing.T) {
	for _, text := range []string{"*0", "*1 *2 *3", "*0 *0 *0 *0 *0 *0", "*1"} {
		first, _ := impl.KernelOf(read(t, text))
		kept := slices.Clone(first)
		second, _ := impl.KernelOf(read(t, text))
		for i := range first[:cap(first)] {
			first[:cap(first)][i] = impl.Vector{9, 9, 9, 9, 9, 9}
		}
		third, _ := impl.KernelOf(read(t, text))
		if !slices.Equal(second, kept) || !slices.Equal(third, kept) {
			t.Errorf("a change of the kernel of %s changed another one", text)
		}
	}
}
