package tests

import (
	"fmt"
	"slices"
	"strings"
	"testing"

	"loop.example/g01307/impl"
)

// Promise 12: quotients and rests make the polynomial again; a common polynomial divides both; and values of sums and products.

func TestSumsOfPolynomials(t *testing.T) {
	for _, a := range polys() {
		for _, b := range polys() {
			sum, code := impl.PlusPoly(a, b)
			wantPoly(t, fmt.Sprint("PlusPoly of ", a, b), sum, code, func(x impl.Nimber) impl.Nimber { return valueOf(a, x) ^ valueOf(b, x) })
		}
	}
}

// The greatest parts go away, and with them the zeros that come at the end.
func TestSumsOfLesserDegree(t *testing.T) {
	for _, a := range polys() {
		for count := range len(a) + 1 {
			b := slices.Clone(a)
			for i := range count {
				b[i] ^= impl.Nimber(i%3 + i/5)
			}
			kept := count
			for kept > 0 && a[kept-1] == b[kept-1] {
				kept--
			}
			want := make(impl.Poly, kept)
			for i := range want {
				want[i] = a[i] ^ b[i]
			}
			if !isValid(b) {
				continue
			}
			sum, code := impl.PlusPoly(a, b)
			wantList(t, fmt.Sprint("PlusPoly of ", a, b), sum, code, want)
		}
	}
}

func TestProductsOfPolynomials(t *testing.T) {
	o := theOracle()
	reached, over := 0, 0
	for _, a := range polys() {
		for _, b := range polys() {
			product, code := impl.TimesPoly(a, b)
			if len(a) > 0 && len(b) > 0 && len(a)+len(b)-2 > 20 {
				call("TimesPoly", product, code).wantCode(t, fmt.Sprint(a, b), impl.ErrLimit)
				over++
				continue
			}
			wantPoly(t, fmt.Sprint("TimesPoly of ", a, b), product, code, func(x impl.Nimber) impl.Nimber { return o.times(valueOf(a, x), valueOf(b, x)) })
			if len(product) == 21 {
				reached++
			}
		}
	}
	if reached < 100 || over < 100 {
		t.Errorf("%d products have the degree MaxDegree, and %d a greater one: the test shows little", reached, over)
	}
}

func TestScaledPolynomials(t *testing.T) {
	o := theOracle()
	for _, p := range polys() {
		for _, by := range samples() {
			scaled, code := impl.ScalePoly(p, by)
			wantPoly(t, fmt.Sprint("ScalePoly of ", p, by), scaled, code, func(x impl.Nimber) impl.Nimber { return o.times(valueOf(p, x), by) })
		}
	}
}

func TestMonicPolynomials(t *testing.T) {
	o := theOracle()
	for _, p := range polys()[1:] {
		last := p[len(p)-1]
		monic, code := impl.MonicOf(p)
		wantPoly(t, fmt.Sprint("MonicOf ", p), monic, code, func(x impl.Nimber) impl.Nimber { return o.times(valueOf(p, x), o.power(last, units-1)) })
		if len(monic) != len(p) || monic[len(p)-1] != 1 {
			t.Errorf("MonicOf %v = %v", p, monic)
		}
	}
}

// checkDivision checks a quotient and a rest: with a degree of the rest that is less than that of b, there is just one pair.
func checkDivision(t *testing.T, a, b impl.Poly) {
	t.Helper()
	o := theOracle()
	quotient, rest, code := impl.DividePoly(a, b)
	if code != impl.OK || !isValid(quotient) || !isValid(rest) || len(rest) >= len(b) || len(quotient) != max(0, len(a)-len(b)+1) {
		t.Errorf("DividePoly of %v and %v = %v, %v, %d", a, b, quotient, rest, code)
		return
	}
	for _, x := range probes() {
		if made := o.times(valueOf(b, x), valueOf(quotient, x)) ^ valueOf(rest, x); made != valueOf(a, x) {
			t.Errorf("DividePoly of %v and %v = %v, %v, which make the value %d for %d", a, b, quotient, rest, made, x)
			return
		}
	}
	product, one := impl.TimesPoly(b, quotient)
	sum, two := impl.PlusPoly(product, rest)
	if one != impl.OK || two != impl.OK || !slices.Equal(sum, a) {
		t.Errorf("%v divided by %v has a quotient and a rest that make %v", a, b, sum)
	}
}

func TestQuotientsAndRests(t *testing.T) {
	for _, a := range polys() {
		for _, b := range polys()[1:] {
			checkDivision(t, a, b)
		}
	}
}

func TestAllSmallQuotientsAndRests(t *testing.T) {
	for _, list := range [][]impl.Poly{smallPolys(2, 5), smallPolys(4, 3)} {
		for _, a := range list {
			for _, b := range list[1:] {
				checkDivision(t, a, b)
			}
		}
	}
}

func TestProductsAreDivided(t *testing.T) {
	d := dice(12)
	for degree := range 21 {
		for other := range 21 - degree {
			a, b := d.poly(degree, 65536), d.poly(other, 65536)
			quotient, rest, code := impl.DividePoly(productOf(a, b), b)
			wantList(t, fmt.Sprint("the quotient of the product of ", a, b), quotient, code, a)
			wantList(t, fmt.Sprint("the rest of the product of ", a, b), rest, code, nil)
			if other == 0 {
				continue
			}
			less := d.poly(d.next(other), 65536)
			sum := productOf(a, b)
			for i := range less {
				sum[i] ^= less[i]
			}
			quotient, rest, code = impl.DividePoly(sum, b)
			wantList(t, fmt.Sprint("the quotient of the product of ", a, b, " and ", less), quotient, code, a)
			wantList(t, fmt.Sprint("the rest of the product of ", a, b, " and ", less), rest, code, less)
		}
	}
}

func TestDivisionByHand(t *testing.T) {
	for _, c := range [][4]string{
		{"0", "*1", "0", "0"},
		{"0", "*7 *5 *3", "0", "0"},
		{"*5", "*5", "*1", "0"},
		{"*1", "*2", "*3", "0"},
		{"*7", "*0 *1", "0", "*7"},
		{"*7 *5", "*1 *1 *1", "0", "*7 *5"},
		{"*0 *0 *1", "*1 *1", "*1 *1", "*1"},
		{"*0 *0 *0 *1", "*0 *1", "*0 *0 *1", "0"},
		{"*1 *0 *0 *0 *1", "*0 *0 *2", "*0 *0 *3", "*1"},
		{"*2 *3 *1", "*2 *1", "*1 *1", "0"},
	} {
		quotient, rest, code := impl.DividePoly(polyOf(t, c[0]), polyOf(t, c[1]))
		wantText(t, "the quotient of "+c[0]+" by "+c[1], quotient, code, c[2])
		wantText(t, "the rest of "+c[0]+" by "+c[1], rest, code, c[3])
	}
}

// isNoRest reports whether d divides p, 0 dividing itself alone.
func isNoRest(p, d impl.Poly) bool {
	if len(d) == 0 {
		return len(p) == 0
	}
	_, rest, code := impl.DividePoly(p, d)
	return code == impl.OK && len(rest) == 0
}

// checkCommon checks a common polynomial that has to be known: its sum, and that it divides.
func checkCommon(t *testing.T, a, b, common impl.Poly) {
	t.Helper()
	about := fmt.Sprint(a, " and ", b)
	got, code := impl.CommonPoly(a, b)
	wantList(t, "CommonPoly of "+about, got, code, common)
	if !isNoRest(a, got) || !isNoRest(b, got) {
		t.Errorf("CommonPoly of %s = %v, which does not divide both", about, got)
	}
	u, v, code := impl.BezoutOf(a, b)
	if code != impl.OK || !isValid(u) || !isValid(v) {
		t.Errorf("BezoutOf %s = %v, %v, %d", about, u, v, code)
		return
	}
	o := theOracle()
	for _, x := range probes() {
		if sum := o.times(valueOf(u, x), valueOf(a, x)) ^ o.times(valueOf(v, x), valueOf(b, x)); sum != valueOf(common, x) {
			t.Errorf("BezoutOf %s = %v, %v, whose sum has the value %d for %d", about, u, v, sum, x)
			return
		}
	}
	checkFactors(t, a, b, common, u, v)
}

// checkFactors checks that no other factors could have been found: with the common polynomial taken away from a and b, the
// degrees of u and v are less than those of b and a, unless one of these is 0, or each one is a product of the other and a nimber.
func checkFactors(t *testing.T, a, b, common, u, v impl.Poly) {
	t.Helper()
	inverse := func(p impl.Poly) impl.Poly { return impl.Poly{theOracle().power(p[len(p)-1], units-1)} }
	about := fmt.Sprint("BezoutOf ", a, " and ", b)
	switch {
	case len(a) == 0 && len(b) == 0:
		wantList(t, about, u, impl.OK, impl.Poly{1})
		wantList(t, about, v, impl.OK, nil)
	case len(b) == 0:
		wantList(t, about, u, impl.OK, inverse(a))
		wantList(t, about, v, impl.OK, nil)
	case len(a) == 0, len(a) == len(common) && len(b) == len(common):
		wantList(t, about, u, impl.OK, nil)
		wantList(t, about, v, impl.OK, inverse(b))
	case len(u) > len(b)-len(common) || len(v) > len(a)-len(common):
		t.Errorf("%s = %v, %v, which are too long", about, u, v)
	}
}

// commonBySearch is the longest of the polynomials that are in both lists.
func commonBySearch(some, others []impl.Poly) impl.Poly {
	var longest impl.Poly
	for _, d := range some {
		if len(d) > len(longest) && slices.ContainsFunc(others, func(p impl.Poly) bool { return slices.Equal(p, d) }) {
			longest = d
		}
	}
	return longest
}

func TestAllSmallCommonPolynomials(t *testing.T) {
	for _, size := range [][2]int{{2, 5}, {4, 3}} {
		list := smallPolys(size[0], size[1])
		known := divisors(list, size[1])
		for _, a := range list {
			for _, b := range list {
				want := impl.Poly(nil)
				if len(a) > 0 || len(b) > 0 { // otherwise each one divides both, and 0 is told
					want = commonBySearch(known[impl.NimsText(a)], known[impl.NimsText(b)])
				}
				checkCommon(t, a, b, want)
			}
		}
	}
}

// Both polynomials have some roots and factors in common, of which some come several times.
func TestCommonPolynomialsByRoots(t *testing.T) {
	d := dice(13)
	plain := rootless(3)
	for shared := range 16 {
		for more := range min(5, 19-shared) {
			common := make([]impl.Nimber, shared)
			for i := range common {
				common[i] = impl.Nimber(1000 + d.next(6))
			}
			both := polyWith(1, common...)
			a, b := polyWith(3, common...), polyWith(65535, common...)
			for i := range more { // two sets, so that nothing else is in common
				a = productOf(a, impl.Poly{impl.Nimber(2000 + d.next(9)), 1})
				if i%2 == 0 {
					b = productOf(b, impl.Poly{impl.Nimber(3000 + d.next(9)), 1})
				}
			}
			checkCommon(t, a, b, both)
			checkCommon(t, b, a, both)
			if len(a) <= 17 && len(b) <= 17 {
				checkCommon(t, productOf(a, plain[0]), productOf(b, plain[0]), productOf(both, plain[0]))
				checkCommon(t, productOf(a, productOf(plain[0], plain[1])), productOf(b, plain[2]), both)
			}
		}
	}
}

func TestCommonPolynomialsOfPowers(t *testing.T) {
	for some := range 21 {
		for others := range 21 {
			common := min(some, others)
			checkCommon(t, polyWith(7, slices.Repeat([]impl.Nimber{5}, some)...), polyWith(300, slices.Repeat([]impl.Nimber{5}, others)...), polyWith(1, slices.Repeat([]impl.Nimber{5}, common)...))
			checkCommon(t, polyWith(7, slices.Repeat([]impl.Nimber{5}, some)...), polyWith(300, slices.Repeat([]impl.Nimber{4}, others)...), impl.Poly{1})
		}
	}
}

// With one of them being 0, the other one, as a monic one, divides both.
func TestCommonPolynomialsOfOne(t *testing.T) {
	for _, p := range polys()[1:] {
		monic := productOf(p, impl.Poly{theOracle().power(p[len(p)-1], units-1)})
		checkCommon(t, p, nil, monic)
		checkCommon(t, nil, p, monic)
		checkCommon(t, p, p, monic)
		checkCommon(t, productOf(p, impl.Poly{77}), p, monic)
		checkCommon(t, impl.Poly{4}, p, impl.Poly{1})
		checkCommon(t, p, impl.Poly{4}, impl.Poly{1})
	}
}

func TestSumsOfCommonPolynomials(t *testing.T) {
	for _, a := range polys() {
		for _, b := range somePolys() {
			if !isValid(b) {
				continue
			}
			common, code := impl.CommonPoly(a, b)
			if code != impl.OK || len(common) > 0 && common[len(common)-1] != 1 {
				t.Errorf("CommonPoly of %v and %v = %v, %d", a, b, common, code)
			}
			checkCommon(t, a, b, common) // being such a sum, no divisor of both is greater
		}
	}
}

func TestFactorsByHand(t *testing.T) {
	for _, c := range [][4]string{
		{"0", "0", "*1", "0"},
		{"*2", "0", "*3", "0"},
		{"0", "*2", "0", "*3"},
		{"*3", "*2", "0", "*3"},
		{"*1 *1", "*1 *1", "0", "*1"},
		{"*1 *1", "*2 *1", "*2", "*2"},
		{"*2 *3 *1", "*1 *1", "0", "*1"},
		{"*1 *1", "*2 *3 *1", "*1", "0"},
		{"*0 *0 *1", "*1 *1", "*1", "*1 *1"},
		{"*0 *0 *2", "*0 *2", "0", "*3"},
		{"*1 *1", "*0 *0 *1", "*1 *1", "*1"},
	} {
		u, v, code := impl.BezoutOf(polyOf(t, c[0]), polyOf(t, c[1]))
		wantText(t, "the first factor of "+c[0]+" and "+c[1], u, code, c[2])
		wantText(t, "the second factor of "+c[0]+" and "+c[1], v, code, c[3])
	}
}

func TestValuesOfPolynomials(t *testing.T) {
	for _, p := range polys() {
		for _, x := range append(samples(), probes()...) {
			if value, code := impl.PolyAt(p, x); value != valueOf(p, x) || code != impl.OK {
				t.Errorf("PolyAt %v and %d = %d, %d, want %d", p, x, value, code, valueOf(p, x))
			}
		}
	}
}

// The value of a product is the product of the values, as the program tells them.
func TestValuesOfProducts(t *testing.T) {
	d := dice(14)
	for degree := range 21 {
		for other := range 21 - degree {
			a, b := d.poly(degree, 65536), d.poly(other, 65536)
			product, one := impl.TimesPoly(a, b)
			for _, x := range samples() {
				whole, two := impl.PolyAt(product, x)
				left, three := impl.PolyAt(a, x)
				right, four := impl.PolyAt(b, x)
				if whole != impl.TimesNim(left, right) || one+two+three+four != impl.OK {
					t.Errorf("%v and %v have the values %d and %d for %d, and their product %d", a, b, left, right, x, whole)
				}
			}
		}
	}
}

func TestPolynomialsInPolynomials(t *testing.T) {
	reached, over := 0, 0
	for _, p := range polys() {
		for _, q := range polys() {
			in, code := impl.PolyIn(p, q)
			if len(p) > 0 && len(q) > 0 && (len(p)-1)*(len(q)-1) > 20 {
				call("PolyIn", in, code).wantCode(t, fmt.Sprint(p, q), impl.ErrLimit)
				over++
				continue
			}
			wantPoly(t, fmt.Sprint("PolyIn of ", p, q), in, code, func(x impl.Nimber) impl.Nimber { return valueOf(p, valueOf(q, x)) })
			if len(in) == 21 {
				reached++
			}
		}
	}
	if reached < 100 || over < 100 {
		t.Errorf("%d results have the degree MaxDegree, and %d would have a greater one: the test shows little", reached, over)
	}
}

func TestPolyInByHand(t *testing.T) {
	for _, c := range [][3]string{
		{"0", "0", "0"},
		{"0", "*1 *2", "0"},
		{"*1 *2", "0", "*1"},
		{"*0 *2", "0", "0"},
		{"*7", "0", "*7"},
		{"*7", "*9 *9 *9", "*7"},
		{"*1 *1", "*1", "0"},
		{"*0 *0 *1", "*2 *1", "*3 *0 *1"},
		{"*1 *1 *1", "*1 *1", "*1 *1 *1"},
		{"*0 *1", "*5 *0 *6", "*5 *0 *6"},
		{"*5 *0 *6", "*0 *1", "*5 *0 *6"},
	} {
		in, code := impl.PolyIn(polyOf(t, c[0]), polyOf(t, c[1]))
		wantText(t, c[1]+" in "+c[0], in, code, c[2])
	}
}

// Limits of degrees are reached with 1 and 20, 2 and 10, 4 and 5, and passed with 3 and 7, which are 1 more.
func TestDegreesAtTheLimit(t *testing.T) {
	for _, c := range []struct {
		first, second int
		times, in     int64
	}{
		{0, 20, impl.OK, impl.OK}, {20, 0, impl.OK, impl.OK}, {1, 20, impl.ErrLimit, impl.OK}, {20, 1, impl.ErrLimit, impl.OK},
		{2, 10, impl.OK, impl.OK}, {10, 2, impl.OK, impl.OK}, {4, 5, impl.OK, impl.OK}, {5, 4, impl.OK, impl.OK},
		{3, 7, impl.OK, impl.ErrLimit}, {7, 3, impl.OK, impl.ErrLimit}, {10, 10, impl.OK, impl.ErrLimit}, {10, 11, impl.ErrLimit, impl.ErrLimit},
		{11, 10, impl.ErrLimit, impl.ErrLimit}, {1, 19, impl.OK, impl.OK}, {20, 20, impl.ErrLimit, impl.ErrLimit}, {2, 20, impl.ErrLimit, impl.ErrLimit},
	} {
		about := fmt.Sprint("the degrees ", c.first, c.second)
		product, code := impl.TimesPoly(powerPoly(c.first, 2), powerPoly(c.second, 3))
		call("TimesPoly", product, code).wantCode(t, about, c.times)
		if code == impl.OK && len(product) != c.first+c.second+1 {
			t.Errorf("the product of %s is %v", about, product)
		}
		in, code := impl.PolyIn(powerPoly(c.first, 2), powerPoly(c.second, 3))
		call("PolyIn", in, code).wantCode(t, about, c.in)
		if code == impl.OK && len(in) != c.first*c.second+1 {
			t.Errorf("PolyIn of %s is %v", about, in)
		}
	}
	for degree := range 21 { // 0 has no degree that could be too great
		for _, pair := range [][2]impl.Poly{{nil, powerPoly(degree, 5)}, {powerPoly(degree, 5), nil}} {
			product, code := impl.TimesPoly(pair[0], pair[1])
			wantList(t, "a product with 0", product, code, nil)
		}
	}
}

func TestSlopes(t *testing.T) {
	for _, p := range polys() {
		slope, code := impl.SlopeOf(p)
		if code != impl.OK || !isValid(slope) {
			t.Errorf("SlopeOf %v = %v, %d", p, slope, code)
		}
		for k := range 21 {
			want, got := impl.Nimber(0), impl.Nimber(0)
			if k%2 == 0 && k+1 < len(p) {
				want = p[k+1]
			}
			if k < len(slope) {
				got = slope[k]
			}
			if got != want {
				t.Errorf("SlopeOf %v = %v", p, slope)
			}
		}
	}
}

func TestSlopesByHand(t *testing.T) {
	for text, want := range map[string]string{
		"0":                                 "0",
		"*7":                                "0",
		"*7 *5":                             "*5",
		"*7 *5 *3":                          "*5",
		"*7 *0 *3":                          "0",
		"*7 *5 *3 *1":                       "*5 *0 *1",
		"*0 *0 *0 *9 *8":                    "*0 *0 *9",
		strings.Repeat("*0 ", 19) + "*4 *4": strings.Repeat("*0 ", 18) + "*4",
	} {
		slope, code := impl.SlopeOf(polyOf(t, text))
		wantText(t, "SlopeOf "+text, slope, code, want)
	}
}

// The slope of a product is the sum of the products of each one and the slope of the other.
func TestSlopesOfProducts(t *testing.T) {
	o := theOracle()
	d := dice(15)
	for degree := range 21 {
		for other := range 21 - degree {
			a, b := d.poly(degree, 65536), d.poly(other, 65536)
			first, one := impl.SlopeOf(a)
			second, two := impl.SlopeOf(b)
			slope, three := impl.SlopeOf(productOf(a, b))
			wantPoly(t, fmt.Sprint("SlopeOf the product of ", a, b), slope, one+two+three, func(x impl.Nimber) impl.Nimber {
				return o.times(valueOf(first, x), valueOf(b, x)) ^ o.times(valueOf(a, x), valueOf(second, x))
			})
		}
	}
}
