package tests

import (
	"fmt"
	"testing"

	"loop.example/g01307/impl"
)

// The oracle of matrices knows them as lists of rows, and finds ranks, free columns and solvability by determinants alone,
// which it takes from the definition: so it reduces nothing.

type table [][]impl.Nimber

func tableOf(m impl.Matrix) table {
	rows := make(table, m.Rows)
	for i := range rows {
		for j := range m.Cols {
			rows[i] = append(rows[i], m.Cells[i][j])
		}
	}
	return rows
}

func matrixOf(rows table) impl.Matrix {
	m := impl.Matrix{Rows: int8(len(rows)), Cols: int8(len(rows[0]))}
	for i, row := range rows {
		copy(m.Cells[i][:], row)
	}
	return m
}

// newTable is a table of zeros.
func newTable(rows, cols int) table {
	made := make(table, rows)
	for i := range made {
		made[i] = make([]impl.Nimber, cols)
	}
	return made
}

func oneTable(side int) table {
	made := newTable(side, side)
	for i := range made {
		made[i][i] = 1
	}
	return made
}

func timesTable(a, b table) table {
	o := theOracle()
	product := newTable(len(a), len(b[0]))
	for i := range a {
		for j := range b[0] {
			for k := range b {
				product[i][j] ^= o.times(a[i][k], b[k][j])
			}
		}
	}
	return product
}

// applyTable is the product of a table and a vector, of which it takes the first cells.
func applyTable(a table, v impl.Vector) impl.Vector {
	o := theOracle()
	var product impl.Vector
	for i, row := range a {
		for j, cell := range row {
			product[i] ^= o.times(cell, v[j])
		}
	}
	return product
}

// minor is the determinant of the cells in some rows and in as many columns, by all ways to choose.
func minor(a table, rows, cols []int) impl.Nimber {
	if len(rows) == 0 {
		return 1
	}
	o := theOracle()
	sum := impl.Nimber(0)
	for i, col := range cols {
		if cell := a[rows[0]][col]; cell != 0 {
			rest := append(append([]int{}, cols[:i]...), cols[i+1:]...)
			sum ^= o.times(cell, minor(a, rows[1:], rest))
		}
	}
	return sum
}

// choices are all ascending lists of so many of the first n numbers.
func choices(n, count int) [][]int {
	if count == 0 {
		return [][]int{nil}
	}
	var all [][]int
	for last := count - 1; last < n; last++ {
		for _, list := range choices(last, count-1) {
			all = append(all, append(append([]int{}, list...), last))
		}
	}
	return all
}

// rankOfTable is the greatest side of a square of cells, in some rows and columns, whose determinant is not 0.
func rankOfTable(a table, cols int) int {
	for side := min(len(a), cols); side > 0; side-- {
		for _, r := range choices(len(a), side) {
			for _, c := range choices(cols, side) {
				if minor(a, r, c) != 0 {
					return side
				}
			}
		}
	}
	return 0
}

// freeColumns are those that do not add to the rank of the columns before them.
func freeColumns(a table) []int {
	var free []int
	before := 0
	for col := range a[0] {
		rank := rankOfTable(a, col+1)
		if rank == before {
			free = append(free, col)
		}
		before = rank
	}
	return free
}

// beside is a table with one column more, a vector.
func beside(a table, v impl.Vector) table {
	var wider table
	for i, row := range a {
		wider = append(wider, append(append([]impl.Nimber{}, row...), v[i]))
	}
	return wider
}

// isReducedTable follows the definition word by word.
func isReducedTable(a table) bool {
	last := -1
	zeros := false
	for i, row := range a {
		first := 0
		for first < len(row) && row[first] == 0 {
			first++
		}
		if first == len(row) {
			zeros = true
			continue
		}
		if zeros || row[first] != 1 || first <= last {
			return false
		}
		last = first
		for j := range a {
			if j != i && a[j][first] != 0 {
				return false
			}
		}
	}
	return true
}

// dice is a row of numbers that look like any ones, and are the same each time.
type dice uint64

func (d *dice) next(bound int) int {
	*d = *d*6364136223846793005 + 1442695040888963407
	return int(uint64(*d) >> 33 % uint64(bound))
}

// table is a table with cells less than bound.
func (d *dice) table(rows, cols, bound int) table {
	made := newTable(rows, cols)
	for i := range made {
		for j := range made[i] {
			made[i][j] = impl.Nimber(d.next(bound))
		}
	}
	return made
}

func (d *dice) vector(count, bound int) impl.Vector {
	var v impl.Vector
	for i := range count {
		v[i] = impl.Nimber(d.next(bound))
	}
	return v
}

// tablesOf are tables of one size: of zeros, with great and with small cells, and with ranks of all kinds.
func tablesOf(rows, cols int) []table {
	d := dice(rows*10 + cols)
	list := []table{newTable(rows, cols), d.table(rows, cols, 65536), d.table(rows, cols, 65536), d.table(rows, cols, 2), d.table(rows, cols, 2), d.table(rows, cols, 4)}
	for rank := 1; rank < min(rows, cols); rank++ {
		list = append(list, timesTable(d.table(rows, rank, 65536), d.table(rank, cols, 65536)), timesTable(d.table(rows, rank, 3), d.table(rank, cols, 3)))
	}
	emptyRow, emptyColumn, last := d.table(rows, cols, 300), d.table(rows, cols, 300), newTable(rows, cols)
	emptyRow[d.next(rows)] = make([]impl.Nimber, cols)
	hole := d.next(cols)
	for i := range emptyColumn {
		emptyColumn[i][hole] = 0
	}
	last[rows-1][cols-1] = 65535
	return append(list, emptyRow, emptyColumn, last)
}

// tables are those of all sizes.
func tables() []table {
	var list []table
	for rows := 1; rows <= impl.MaxSide; rows++ {
		for cols := 1; cols <= impl.MaxSide; cols++ {
			list = append(list, tablesOf(rows, cols)...)
		}
	}
	return list
}

// smallTables are all tables of a size with cells less than bound.
func smallTables(rows, cols, bound int) []table {
	count := 1
	for range rows * cols {
		count *= bound
	}
	list := make([]table, count)
	for n := range list {
		list[n] = newTable(rows, cols)
		rest := n
		for i := range rows * cols {
			list[n][i/cols][i%cols] = impl.Nimber(rest % bound)
			rest /= bound
		}
	}
	return list
}

// read is the matrix with a text that has to be one.
func read(t *testing.T, text string) impl.Matrix {
	t.Helper()
	m, code := impl.ReadMatrix(text)
	if code != impl.OK {
		t.Fatalf("ReadMatrix(%q) = %d", text, code)
	}
	return m
}

// wantMatrix checks a matrix that comes with a code.
func wantMatrix(t *testing.T, name string, got impl.Matrix, code int64, want impl.Matrix) {
	t.Helper()
	if got != want || code != impl.OK {
		t.Errorf("%s = %s, %d, want %s", name, shown(got), code, shown(want))
	}
}

func shown(m impl.Matrix) string {
	return fmt.Sprintf("%d x %d %v", m.Rows, m.Cols, m.Cells)
}
