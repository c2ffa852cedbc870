package tests

import (
	"fmt"
	"testing"

	"loop.example/g01307/impl"
)

// Promise 5: the product of a matrix and its inverse is OneMatrix; the determinant of a product is the product of the determinants.

func TestOneMatrix(t *testing.T) {
	for side := 1; side <= impl.MaxSide; side++ {
		one, code := impl.OneMatrix(int64(side))
		wantMatrix(t, fmt.Sprint("OneMatrix ", side), one, code, matrixOf(oneTable(side)))
	}
}

func TestSumsOfMatrices(t *testing.T) {
	for rows := 1; rows <= impl.MaxSide; rows++ {
		for cols := 1; cols <= impl.MaxSide; cols++ {
			list := tablesOf(rows, cols)
			for i, a := range list {
				b := list[(i+1)%len(list)]
				want := newTable(rows, cols)
				for r := range a {
					for c := range a[r] {
						want[r][c] = a[r][c] ^ b[r][c]
					}
				}
				sum, code := impl.PlusMatrix(matrixOf(a), matrixOf(b))
				wantMatrix(t, fmt.Sprint("PlusMatrix of ", a, " and ", b), sum, code, matrixOf(want))
				zero, code := impl.PlusMatrix(matrixOf(a), matrixOf(a))
				wantMatrix(t, fmt.Sprint("PlusMatrix of twice ", a), zero, code, matrixOf(newTable(rows, cols)))
			}
		}
	}
}

func TestScaledAndTurnedMatrices(t *testing.T) {
	o := theOracle()
	for _, a := range tables() {
		for _, by := range []impl.Nimber{0, 1, 2, 300, 65535} {
			want := newTable(len(a), len(a[0]))
			for i := range a {
				for j := range a[i] {
					want[i][j] = o.times(a[i][j], by)
				}
			}
			got, code := impl.ScaleMatrix(matrixOf(a), by)
			wantMatrix(t, fmt.Sprint("ScaleMatrix of ", a, " and ", by), got, code, matrixOf(want))
		}
		want := newTable(len(a[0]), len(a))
		for i := range a {
			for j := range a[i] {
				want[j][i] = a[i][j]
			}
		}
		turned, code := impl.TurnMatrix(matrixOf(a))
		wantMatrix(t, fmt.Sprint("TurnMatrix of ", a), turned, code, matrixOf(want))
	}
}

func TestProductsOfMatrices(t *testing.T) {
	d := dice(1)
	for rows := 1; rows <= impl.MaxSide; rows++ {
		for middle := 1; middle <= impl.MaxSide; middle++ {
			for cols := 1; cols <= impl.MaxSide; cols++ {
				for _, bound := range []int{2, 4, 65536} {
					a, b := d.table(rows, middle, bound), d.table(middle, cols, bound)
					product, code := impl.TimesMatrix(matrixOf(a), matrixOf(b))
					wantMatrix(t, fmt.Sprint("TimesMatrix of ", a, " and ", b), product, code, matrixOf(timesTable(a, b)))
				}
			}
		}
	}
}

func TestProductsWithOne(t *testing.T) {
	for _, a := range tables() {
		m := matrixOf(a)
		left, _ := impl.OneMatrix(int64(m.Rows))
		right, _ := impl.OneMatrix(int64(m.Cols))
		product, code := impl.TimesMatrix(left, m)
		wantMatrix(t, fmt.Sprint("the product of one and ", a), product, code, m)
		product, code = impl.TimesMatrix(m, right)
		wantMatrix(t, fmt.Sprint("the product with one of ", a), product, code, m)
	}
}

func TestProductsOfVectors(t *testing.T) {
	d := dice(2)
	for _, a := range tables() {
		m := matrixOf(a)
		for _, v := range []impl.Vector{{}, {1}, d.vector(len(a[0]), 2), d.vector(len(a[0]), 65536)} {
			if got, code := impl.ApplyMatrix(m, v); got != applyTable(a, v) || code != impl.OK {
				t.Errorf("ApplyMatrix of %v and %v = %v, %d, want %v", a, v, got, code, applyTable(a, v))
			}
		}
		for col := range a[0] {
			v := impl.Vector{}
			v[col] = 1
			got, _ := impl.ApplyMatrix(m, v)
			for i := range a {
				if got[i] != a[i][col] {
					t.Errorf("ApplyMatrix of %v does not give the column %d: %v", a, col, got)
				}
			}
		}
	}
}

func TestPowersOfMatrices(t *testing.T) {
	for side := 1; side <= impl.MaxSide; side++ {
		for _, a := range tablesOf(side, side) {
			want := oneTable(side)
			for n := range int64(12) {
				power, code := impl.PowerMatrix(matrixOf(a), n)
				wantMatrix(t, fmt.Sprint("PowerMatrix of ", a, " and ", n), power, code, matrixOf(want))
				want = timesTable(want, a)
			}
		}
	}
}

func TestGreatPowersOfMatrices(t *testing.T) {
	thousandth := func(a table) table {
		power := oneTable(len(a))
		for range 1000 {
			power = timesTable(power, a)
		}
		return power
	}
	for _, side := range []int{1, 2, 5, 6} {
		for _, a := range tablesOf(side, side)[:4] {
			power := thousandth(thousandth(a))
			got, code := impl.PowerMatrix(matrixOf(a), 1000000)
			wantMatrix(t, fmt.Sprint("the greatest power of ", a), got, code, matrixOf(power))
			before, code := impl.PowerMatrix(matrixOf(a), 999999)
			product, _ := impl.TimesMatrix(before, matrixOf(a))
			wantMatrix(t, fmt.Sprint("the greatest power but one of ", a, ", times this"), product, code, matrixOf(power))
		}
	}
}

// squares are all tables that have as many rows as columns.
func squares() []table {
	list := append(append(smallTables(1, 1, 16), smallTables(2, 2, 4)...), smallTables(3, 3, 2)...)
	for side := 1; side <= impl.MaxSide; side++ {
		list = append(list, tablesOf(side, side)...)
		list = append(list, oneTable(side))
	}
	return list
}

// determinantOfTable is the determinant by all ways to choose.
func determinantOfTable(a table) impl.Nimber {
	everything := choices(len(a), len(a))[0]
	return minor(a, everything, everything)
}

func TestDeterminants(t *testing.T) {
	zeros := 0
	for _, a := range squares() {
		want := determinantOfTable(a)
		if got, code := impl.DeterminantOf(matrixOf(a)); got != want || code != impl.OK {
			t.Errorf("DeterminantOf %v = %d, %d, want %d", a, got, code, want)
		}
		if want == 0 {
			zeros++
		}
	}
	if zeros < 100 || zeros > len(squares())-100 {
		t.Errorf("%d of %d determinants are 0: the test shows little", zeros, len(squares()))
	}
}

func TestDeterminantsOfTriangles(t *testing.T) {
	d := dice(3)
	for side := 1; side <= impl.MaxSide; side++ {
		upper := d.table(side, side, 65536)
		want := impl.Nimber(1)
		for i := range upper {
			for j := range i {
				upper[i][j] = 0
			}
			want = impl.TimesNim(want, upper[i][i])
		}
		if got, code := impl.DeterminantOf(matrixOf(upper)); got != want || code != impl.OK {
			t.Errorf("DeterminantOf %v = %d, %d, want %d", upper, got, code, want)
		}
		turned, _ := impl.TurnMatrix(matrixOf(upper))
		if got, code := impl.DeterminantOf(turned); got != want || code != impl.OK {
			t.Errorf("the determinant of %v, turned, is %d, %d, want %d", upper, got, code, want)
		}
	}
}

func TestDeterminantsOfProducts(t *testing.T) {
	for side := 1; side <= impl.MaxSide; side++ {
		list := tablesOf(side, side)
		for _, a := range list {
			for _, b := range list {
				product, _ := impl.TimesMatrix(matrixOf(a), matrixOf(b))
				first, one := impl.DeterminantOf(matrixOf(a))
				second, two := impl.DeterminantOf(matrixOf(b))
				got, three := impl.DeterminantOf(product)
				if got != impl.TimesNim(first, second) || one != impl.OK || two != impl.OK || three != impl.OK {
					t.Errorf("the determinants of %v and %v are %d and %d, that of the product is %d", a, b, first, second, got)
				}
			}
		}
	}
}

func TestInverses(t *testing.T) {
	found := 0
	for _, a := range squares() {
		m := matrixOf(a)
		inverse, code := impl.InverseMatrix(m)
		if determinantOfTable(a) == 0 {
			if code != impl.ErrNotFound || inverse != (impl.Matrix{}) {
				t.Errorf("InverseMatrix of %v, which has the determinant 0, = %s, %d", a, shown(inverse), code)
			}
			continue
		}
		found++
		if code != impl.OK || !impl.ValidMatrix(inverse) || inverse.Rows != m.Rows || inverse.Cols != m.Cols {
			t.Errorf("InverseMatrix of %v = %s, %d", a, shown(inverse), code)
			continue
		}
		one := matrixOf(oneTable(len(a)))
		right, code := impl.TimesMatrix(m, inverse)
		wantMatrix(t, fmt.Sprint("the product with its inverse of ", a), right, code, one)
		left, code := impl.TimesMatrix(inverse, m)
		wantMatrix(t, fmt.Sprint("the product of its inverse and ", a), left, code, one)
		wantMatrix(t, fmt.Sprint("the product, by the oracle, with its inverse of ", a), matrixOf(timesTable(a, tableOf(inverse))), code, one)
	}
	if found < 100 {
		t.Errorf("only %d inverses were found", found)
	}
}

// The rows have to be exchanged, as the first cell of the first row is 0.
func TestInversesOfExchanges(t *testing.T) {
	for side := 2; side <= impl.MaxSide; side++ {
		swapped := newTable(side, side)
		for i := range swapped {
			swapped[i][(i+1)%side] = impl.Nimber(i + 2)
		}
		inverse, code := impl.InverseMatrix(matrixOf(swapped))
		wantMatrix(t, fmt.Sprint("the product with its inverse of ", swapped), matrixOf(timesTable(swapped, tableOf(inverse))), code, matrixOf(oneTable(side)))
	}
}

func TestTracesOfMatrices(t *testing.T) {
	for _, a := range squares() {
		want := impl.Nimber(0)
		for i := range a {
			want ^= a[i][i]
		}
		if got, code := impl.TraceMatrix(matrixOf(a)); got != want || code != impl.OK {
			t.Errorf("TraceMatrix of %v = %d, %d, want %d", a, got, code, want)
		}
	}
}

func TestPowersMatrix(t *testing.T) {
	o := theOracle()
	for _, list := range [][]impl.Nimber{{0}, {1}, {65535}, {0, 0}, {0, 1, 2}, {7, 7, 7}, {2, 3, 4, 5, 6, 7}, {65535, 0, 300, 0, 16, 1}} {
		for cols := 1; cols <= impl.MaxSide; cols++ {
			want := newTable(len(list), cols)
			for i, a := range list {
				for j := range cols {
					want[i][j] = o.power(a, int64(j))
				}
			}
			got, code := impl.PowersMatrix(list, int64(cols))
			wantMatrix(t, fmt.Sprint("PowersMatrix of ", list, " and ", cols), got, code, matrixOf(want))
		}
	}
}
