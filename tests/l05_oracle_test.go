package tests

import (
	"slices"
	"testing"

	"loop.example/g01307/impl"
)

// The oracle of polynomials divides nothing: it knows their values, as sums of powers, and their roots; it finds divisors
// of small ones by all products that there are, and knows a polynomial by its degree and so many values that there is one alone.

// valueOf is the value of a list, which needs not be valid.
func valueOf(p impl.Poly, x impl.Nimber) impl.Nimber {
	o := theOracle()
	sum := impl.Nimber(0)
	for k, a := range p {
		sum ^= o.times(a, o.power(x, int64(k)))
	}
	return sum
}

// probes are more nimbers than a product of two polynomials can have roots: twice MaxDegree.
func probes() []impl.Nimber {
	list := make([]impl.Nimber, 2*impl.MaxDegree+1)
	for i := range list {
		list[i] = impl.Nimber(i * 4001)
	}
	return list
}

// isValid follows the definition.
func isValid(p impl.Poly) bool {
	if len(p) == 0 {
		return true
	}
	return len(p) <= 21 && p[len(p)-1] != 0
}

// wantPoly checks that what comes with a code is a polynomial with the wanted values, which have to be those of one whose degree
// is not greater than twice MaxDegree. So there is one alone.
func wantPoly(t *testing.T, name string, got impl.Poly, code int64, want func(x impl.Nimber) impl.Nimber) {
	t.Helper()
	if code != impl.OK || !isValid(got) {
		t.Errorf("%s = %v, %d", name, got, code)
		return
	}
	for _, x := range probes() {
		if value := valueOf(got, x); value != want(x) {
			t.Errorf("%s = %v, which has the value %d for %d, want %d", name, got, value, x, want(x))
			return
		}
	}
}

// wantList checks a polynomial or a word that is known.
func wantList[L ~[]impl.Nimber](t *testing.T, name string, got L, code int64, want L) {
	t.Helper()
	if code != impl.OK || !slices.Equal(got, want) {
		t.Errorf("%s = %v, %d, want %v", name, got, code, want)
	}
}

// productOf is the product of two lists.
func productOf(p, q impl.Poly) impl.Poly {
	if len(p) == 0 || len(q) == 0 {
		return nil
	}
	o := theOracle()
	product := make(impl.Poly, len(p)+len(q)-1)
	for k := range product {
		for i := max(0, k-len(q)+1); i <= min(k, len(p)-1); i++ {
			product[k] ^= o.times(p[i], q[k-i])
		}
	}
	return product
}

// rootsValue is the product of x plus r for all r of a list.
func rootsValue(roots []impl.Nimber, x impl.Nimber) impl.Nimber {
	o := theOracle()
	product := impl.Nimber(1)
	for _, r := range roots {
		product = o.times(product, x^r)
	}
	return product
}

// polyWith is the polynomial that has some roots, and a last nimber.
func polyWith(last impl.Nimber, roots ...impl.Nimber) impl.Poly {
	p := impl.Poly{last}
	for _, r := range roots {
		p = productOf(p, impl.Poly{r, 1})
	}
	return p
}

// timesRootOf is the least k for which the slope of order k is not 0 at x. Its parts have odd factors if k has no bit that is
// not in the exponent.
func timesRootOf(p impl.Poly, x impl.Nimber) int64 {
	o := theOracle()
	for k := range p {
		sum := impl.Nimber(0)
		for i, a := range p {
			if i&k == k {
				sum ^= o.times(a, o.power(x, int64(i-k)))
			}
		}
		if sum != 0 {
			return int64(k)
		}
	}
	return -1
}

// poly has a degree, and nimbers less than bound.
func (d *dice) poly(degree, bound int) impl.Poly {
	p := make(impl.Poly, degree+1)
	for i := range p {
		p[i] = impl.Nimber(d.next(bound))
	}
	if degree >= 0 {
		p[degree] = impl.Nimber(1 + d.next(bound-1))
	}
	return p
}

// powerPoly has one nimber that is not 0, the last one.
func powerPoly(degree int, last impl.Nimber) impl.Poly {
	return append(make(impl.Poly, degree), last)
}

// polys are polynomials of all degrees.
func polys() []impl.Poly {
	d := dice(55)
	list := []impl.Poly{nil}
	for degree := range impl.MaxDegree + 1 {
		list = append(list, d.poly(degree, 2), d.poly(degree, 4), d.poly(degree, 65536), powerPoly(degree, 1), powerPoly(degree, 40000))
	}
	return list
}

// smallPolys are all polynomials of at most so many nimbers that are less than bound.
func smallPolys(bound, count int) []impl.Poly {
	list := []impl.Poly{nil}
	for length := range count {
		for _, behind := range slices.Clone(list) {
			if len(behind) != length && length > 0 {
				continue
			}
			for a := range impl.Nimber(bound) {
				if p := append(impl.Poly{a}, behind...); isValid(p) {
					list = append(list, p)
				}
			}
		}
	}
	return list
}

// divisors has, by the texts of products, the monic ones of some polynomials that divide them.
func divisors(list []impl.Poly, count int) map[string][]impl.Poly {
	found := map[string][]impl.Poly{}
	for _, d := range list {
		if len(d) == 0 || d[len(d)-1] != 1 {
			continue
		}
		for _, q := range list {
			if product := productOf(d, q); len(product) <= count {
				found[impl.NimsText(product)] = append(found[impl.NimsText(product)], d)
			}
		}
	}
	return found
}

// rootless are polynomials of degree 2 that have no roots: no nimber is, together with its square, such a sum.
func rootless(count int) []impl.Poly {
	o := theOracle()
	sums := map[impl.Nimber]bool{}
	for x := range all {
		sums[o.times(x, x)^x] = true
	}
	var list []impl.Poly
	for a := range all {
		if !sums[a] && len(list) < count {
			list = append(list, impl.Poly{a, 1, 1})
		}
	}
	return list
}
