package tests

import (
	"fmt"
	"testing"

	"loop.example/g01307/impl"
)

// Promise 18, over all chapters: products are the least numbers that are not excluded, and circuits have them; matrices have their
// inverses, and polynomials their values. All sums and products of nimbers are those of circuits here.

// wired has the sums and the products of all nimbers of the level 3, as circuits make them.
type wired struct {
	sums     [256][256]impl.Nimber
	products [256][256]impl.Nimber
}

func (w *wired) plus(a, b impl.Nimber) impl.Nimber { return w.sums[a][b] }

func (w *wired) times(a, b impl.Nimber) impl.Nimber { return w.products[a][b] }

// wiredBy runs both circuits for all pairs.
func wiredBy(t *testing.T, product string) *wired {
	t.Helper()
	w := &wired{}
	plus, times := made(t, "PlusCircuit", 3), made(t, product, 3)
	for a := range uint16(256) {
		for b := range uint16(256) {
			sum, one := impl.RunCircuit(plus, a|b<<8)
			outputs, two := impl.RunCircuit(times, a|b<<8)
			if one != impl.OK || two != impl.OK {
				t.Fatalf("RunCircuit with %d and %d has the codes %d and %d", a, b, one, two)
			}
			w.sums[a][b], w.products[a][b] = impl.Nimber(sum), impl.Nimber(outputs)
		}
	}
	return w
}

// wiredBoth has what both circuits for products make.
func wiredBoth(t *testing.T) map[string]*wired {
	return map[string]*wired{"TimesCircuit": wiredBy(t, "TimesCircuit"), "ShortTimes": wiredBy(t, "ShortTimes")}
}

// leastProduct is the least number that is not excluded, with the sums and products of circuits alone.
func (w *wired) leastProduct(a, b impl.Nimber) impl.Nimber {
	excluded := map[impl.Nimber]bool{}
	for x := range a {
		for y := range b {
			excluded[w.plus(w.plus(w.times(x, b), w.times(a, y)), w.times(x, y))] = true
		}
	}
	return leastExcluded(excluded)
}

func TestCircuitsHaveTheLeastProducts(t *testing.T) {
	for name, w := range wiredBoth(t) {
		for a := range impl.Nimber(256) {
			for b := range impl.Nimber(256) {
				got := w.times(a, b)
				if got != impl.TimesNim(a, b) || w.plus(a, b) != impl.PlusNim(a, b) {
					t.Fatalf("%s(3) has the product %d and the sum %d of %d and %d", name, got, w.plus(a, b), a, b)
				}
				if a > 31 || b > 31 {
					continue
				}
				if least, code := impl.TimesByExclusion(a, b); code != impl.OK || least != got {
					t.Errorf("%s(3) has the product %d of %d and %d, TimesByExclusion is %d, %d", name, got, a, b, least, code)
				}
				if least := w.leastProduct(a, b); least != got {
					t.Errorf("%s(3) has the product %d of %d and %d, but the least that is not excluded is %d", name, got, a, b, least)
				}
			}
		}
		for _, pair := range [][2]impl.Nimber{{32, 32}, {255, 255}, {255, 16}, {40, 200}, {128, 128}, {129, 77}, {5, 250}, {250, 3}} {
			if got, least := w.times(pair[0], pair[1]), w.leastProduct(pair[0], pair[1]); got != least {
				t.Errorf("%s(3) has the product %d of %v, but the least that is not excluded is %d", name, got, pair, least)
			}
		}
	}
}

// Of each level, circuits have the least numbers that are not excluded.
func TestCircuitsOfAllLevelsHaveTheLeastProducts(t *testing.T) {
	for level := range int64(3) {
		bits := bitCount(level)
		for _, name := range []string{"TimesCircuit", "ShortTimes"} {
			c := made(t, name, level)
			for a := range impl.Nimber(1 << bits) {
				for b := range impl.Nimber(1 << bits) {
					outputs, one := impl.RunCircuit(c, uint16(a|b<<bits))
					least, two := impl.TimesByExclusion(a, b)
					if one+two != impl.OK || impl.Nimber(outputs) != least {
						t.Errorf("%s(%d) with %d and %d is %d, want %d", name, level, a, b, outputs, least)
					}
				}
			}
		}
	}
}

// Values of rectangles of coins are products, and those of circuits.
func TestCircuitsHaveTheValuesOfRectangles(t *testing.T) {
	for name, w := range wiredBoth(t) {
		for _, pair := range rulePairs() {
			across, one := impl.CoinValues(pair[0], impl.Board)
			down, two := impl.CoinValues(pair[1], impl.Board)
			for x, a := range across {
				for y, b := range down {
					value, code := impl.CellValue(pair[0], pair[1], int64(x), int64(y))
					wantNumber(t, fmt.Sprint("CellValue of ", pair, x, y, " by ", name), value, code+one+two, w.times(a, b))
				}
			}
		}
	}
}

// timesTable is the product of two tables.
func (w *wired) timesTable(a, b table) table {
	product := newTable(len(a), len(b[0]))
	for i := range a {
		for j := range b[0] {
			for k := range b {
				product[i][j] = w.plus(product[i][j], w.times(a[i][k], b[k][j]))
			}
		}
	}
	return product
}

func TestInversesAreThoseOfCircuits(t *testing.T) {
	d := dice(730)
	for name, w := range wiredBoth(t) {
		found := 0
		for side := 1; side <= impl.MaxSide; side++ {
			one, _ := impl.OneMatrix(int64(side))
			for range 20 {
				a := d.table(side, side, []int{2, 4, 16, 256}[d.next(4)])
				inverse, code := impl.InverseMatrix(matrixOf(a))
				if code == impl.ErrNotFound {
					continue
				}
				found++
				back := tableOf(inverse)
				if code != impl.OK || matrixOf(w.timesTable(a, back)) != one || matrixOf(w.timesTable(back, a)) != one {
					t.Errorf("InverseMatrix of %v = %v, %d, whose products by %s are not OneMatrix", a, back, code, name)
				}
				if product, code := impl.TimesMatrix(matrixOf(a), inverse); code != impl.OK || product != one {
					t.Errorf("TimesMatrix of %v and its inverse = %v, %d", a, tableOf(product), code)
				}
			}
		}
		if found < 50 {
			t.Errorf("only %d matrices have an inverse: the test shows little", found)
		}
	}
}

// valueAt goes from the last nimber of a list to the first one.
func (w *wired) valueAt(list []impl.Nimber, x impl.Nimber) impl.Nimber {
	value := impl.Nimber(0)
	for i := len(list) - 1; i >= 0; i-- {
		value = w.plus(w.times(value, x), list[i])
	}
	return value
}

func TestPolynomialsThroughSpotsHaveTheValuesOfCircuits(t *testing.T) {
	d := dice(731)
	for name, w := range wiredBoth(t) {
		for count := range 21 {
			var spots []impl.Spot
			for i := range count {
				spots = append(spots, impl.Spot{X: impl.Nimber((i*37 + count) % 256), Y: impl.Nimber(d.next(256))})
			}
			p, code := impl.PolyThrough(spots)
			if code != impl.OK || len(p) > count {
				t.Errorf("PolyThrough of %v = %v, %d", spots, p, code)
				continue
			}
			for _, spot := range spots {
				value, code := impl.PolyAt(p, spot.X)
				if got := w.valueAt(p, spot.X); got != spot.Y || value != got || code != impl.OK {
					t.Errorf("PolyThrough of %v has the value %d at %d by %s, and %d, %d by PolyAt", spots, got, spot.X, name, value, code)
				}
			}
		}
	}
}

// Greedy codes are closed under the sums and products of circuits.
func TestCodesAreClosedUnderThoseOfCircuits(t *testing.T) {
	for name, w := range wiredBoth(t) {
		for _, base := range []int64{4, 16} {
			list, code := impl.GreedyCode(base, 3, 2)
			if code != impl.OK || len(list) < 2 {
				t.Fatalf("GreedyCode(%d, 3, 2) = %v, %d", base, list, code)
			}
			basis, code := impl.GreedyBasis(base, 3, 2)
			if code != impl.OK {
				t.Fatalf("GreedyBasis(%d, 3, 2) = %d", base, code)
			}
			for _, word := range basis {
				for a := range impl.Nimber(base) {
					for _, other := range list {
						sum := make(impl.Word, 3)
						for i := range sum {
							sum[i] = w.plus(w.times(a, word[i]), other[i])
						}
						if !hasWord(list, sum) {
							t.Errorf("%v, which is %v and %d times %v by %s, is not in the code", sum, other, a, word, name)
						}
					}
				}
			}
		}
	}
}
