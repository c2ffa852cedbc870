package tests

import (
	"fmt"
	"math"
	"slices"
	"testing"

	"loop.example/g01307/impl"
)

// Promise 1 for the functions of chapter 5: they return for all arguments, modify none, depend on nothing else, and return zero values with errors.

// onePolyCalls calls all functions of one polynomial.
func onePolyCalls(p impl.Poly, x impl.Nimber, level int64) []called {
	degree, one := impl.DegreeOf(p)
	scaled, two := impl.ScalePoly(p, x)
	at, three := impl.PolyAt(p, x)
	slope, four := impl.SlopeOf(p)
	monic, five := impl.MonicOf(p)
	roots, six := impl.RootsIn(p, level)
	times, seven := impl.TimesRoot(p, x)
	simple, eight := impl.IsSimple(p)
	root, nine := impl.RootOfPoly(p)
	return []called{
		call("DegreeOf", degree, one), call("ScalePoly", scaled, two), call("PolyAt", at, three), call("SlopeOf", slope, four), call("MonicOf", monic, five),
		call("RootsIn", roots, six), call("TimesRoot", times, seven), call("IsSimple", simple, eight), call("RootOfPoly", root, nine),
	}
}

// twoPolyCalls calls all functions of two polynomials.
func twoPolyCalls(a, b impl.Poly) []called {
	sum, one := impl.PlusPoly(a, b)
	product, two := impl.TimesPoly(a, b)
	quotient, rest, three := impl.DividePoly(a, b)
	common, four := impl.CommonPoly(a, b)
	u, v, five := impl.BezoutOf(a, b)
	in, six := impl.PolyIn(a, b)
	return []called{
		call("PlusPoly", sum, one), call("TimesPoly", product, two), call("the quotient of DividePoly", quotient, three), call("the rest of DividePoly", rest, three),
		call("CommonPoly", common, four), call("the first factor of BezoutOf", u, five), call("the second factor of BezoutOf", v, five), call("PolyIn", in, six),
	}
}

// invalidPolys end in 0, or are too long, or both.
func invalidPolys() []impl.Poly {
	list := []impl.Poly{{0}, {0, 0}, {1, 0}, {65535, 0}, {0, 1, 0}, {1, 2, 3, 0, 0}}
	for _, length := range []int{21, 22, 23, 40, 41, 256, 257, 276, 277, 65536, 65537, 1_000_000} {
		zeros, power, ones, ending := make(impl.Poly, length), powerPoly(length-1, 1), slices.Repeat(impl.Poly{1}, length), slices.Repeat(impl.Poly{1}, length)
		ending[length-1] = 0
		list = append(list, zeros, ending)
		if length > 21 {
			list = append(list, power, ones)
		}
	}
	return list
}

func shortPoly(p impl.Poly) string {
	return fmt.Sprint(len(p), " nimbers from ", p[:min(len(p), 25)])
}

func TestValidPoly(t *testing.T) {
	for _, p := range append(polys(), impl.Poly{}, slices.Repeat(impl.Poly{65535}, 21)) {
		if !impl.ValidPoly(p) {
			t.Errorf("ValidPoly of %v is false", p)
		}
	}
	for _, p := range invalidPolys() {
		if impl.ValidPoly(p) {
			t.Errorf("ValidPoly of %s is true", shortPoly(p))
		}
	}
}

// ErrInvalid comes before all other errors, so there are bad levels, and other polynomials that are 0, too great, or not valid.
func TestInvalidPolynomials(t *testing.T) {
	others := []impl.Poly{nil, {1}, {5, 1}, powerPoly(20, 1), {0}, {1, 0}, powerPoly(21, 1)}
	for _, p := range invalidPolys() {
		var list []called
		for _, level := range []int64{math.MinInt64, -1, 0, 3, 4, math.MaxInt64} {
			list = append(list, onePolyCalls(p, 0, level)...)
			list = append(list, onePolyCalls(p, 65535, level)...)
		}
		for _, other := range append(others, p) {
			list = append(list, twoPolyCalls(p, other)...)
			list = append(list, twoPolyCalls(other, p)...)
		}
		for _, c := range list {
			c.wantCode(t, shortPoly(p), impl.ErrInvalid)
		}
	}
}

// wantCodes checks codes, of which those that have to differ from OK are named.
func wantCodes(t *testing.T, about string, list []called, codes map[string]int64) {
	t.Helper()
	for _, c := range list {
		c.wantCode(t, about, codes[c.name])
	}
}

// The polynomial 0 is each argument of each function, as nil, and as an empty list that has room.
func TestPolynomialZero(t *testing.T) {
	for _, zero := range []impl.Poly{nil, {}, make(impl.Poly, 0, 8), impl.Poly{1, 2, 3}[:0]} {
		wantCodes(t, "0", onePolyCalls(zero, 7, 2), map[string]int64{"MonicOf": impl.ErrState, "RootsIn": impl.ErrState, "TimesRoot": impl.ErrState, "IsSimple": impl.ErrState})
		wantCodes(t, "0 and 0", twoPolyCalls(zero, zero), map[string]int64{"the quotient of DividePoly": impl.ErrState, "the rest of DividePoly": impl.ErrState})
		for _, p := range polys()[1:] {
			about := fmt.Sprint("0 and ", p)
			wantCodes(t, about, twoPolyCalls(zero, p), nil)
			wantCodes(t, about, twoPolyCalls(p, zero), map[string]int64{"the quotient of DividePoly": impl.ErrState, "the rest of DividePoly": impl.ErrState})
		}
		degree, one := impl.DegreeOf(zero)
		value, two := impl.PolyAt(zero, 65535)
		if degree != -1 || value != 0 || one+two != impl.OK || !impl.ValidPoly(zero) || impl.PolyText(zero) != "0" {
			t.Errorf("0 has the degree %d, the value %d and the text %q", degree, value, impl.PolyText(zero))
		}
		for name, empty := range map[string]func() (impl.Poly, int64){
			"TrimPoly":   func() (impl.Poly, int64) { return impl.TrimPoly(zero) },
			"PlusPoly":   func() (impl.Poly, int64) { return impl.PlusPoly(zero, zero) },
			"TimesPoly":  func() (impl.Poly, int64) { return impl.TimesPoly(zero, impl.Poly{1, 2}) },
			"ScalePoly":  func() (impl.Poly, int64) { return impl.ScalePoly(zero, 9) },
			"CommonPoly": func() (impl.Poly, int64) { return impl.CommonPoly(zero, zero) },
			"PolyIn":     func() (impl.Poly, int64) { return impl.PolyIn(zero, impl.Poly{1, 2}) },
			"SlopeOf":    func() (impl.Poly, int64) { return impl.SlopeOf(zero) },
			"RootOfPoly": func() (impl.Poly, int64) { return impl.RootOfPoly(zero) },
		} {
			p, code := empty()
			wantList(t, name+" of 0", p, code, nil)
		}
	}
}

func TestDegrees(t *testing.T) {
	for _, p := range polys() {
		if degree, code := impl.DegreeOf(p); degree != int64(len(p))-1 || code != impl.OK {
			t.Errorf("DegreeOf %v = %d, %d", p, degree, code)
		}
	}
}

func TestSamePoly(t *testing.T) {
	lists := append(polys(), invalidPolys()...)
	for i, a := range lists {
		for j, b := range lists {
			same := len(a) == len(b)
			for k := 0; same && k < len(a); k++ {
				same = a[k] == b[k]
			}
			if got := impl.SamePoly(a, b); got != same {
				t.Errorf("SamePoly of the lists %d and %d is %v", i, j, got)
			}
		}
	}
	if !impl.SamePoly(nil, impl.Poly{}) || !impl.SamePoly(impl.Poly{}, nil) || impl.SamePoly(nil, impl.Poly{0}) || impl.SamePoly(impl.Poly{1}, impl.Poly{1, 0}) {
		t.Errorf("SamePoly takes empty lists or zeros wrong")
	}
}

func TestTrimmedLists(t *testing.T) {
	for _, p := range polys() {
		for _, zeros := range []int{0, 1, 2, 21, 22, 300, 1000} {
			trimmed, code := impl.TrimPoly(append(slices.Clone(p), make(impl.Poly, zeros)...))
			wantList(t, fmt.Sprint("TrimPoly of ", p, " and ", zeros, " zeros"), trimmed, code, p)
		}
	}
	for _, length := range []int{0, 1, 20, 21, 22, 256, 1_000_000} {
		trimmed, code := impl.TrimPoly(make([]impl.Nimber, length))
		wantList(t, fmt.Sprint("TrimPoly of ", length, " zeros"), trimmed, code, nil)
	}
	for _, length := range []int{1, 20, 21, 22, 23, 41, 256, 257, 276, 277, 65536, 65537, 1_000_000} {
		for _, zeros := range []int{0, 1, 21, 5000} {
			trimmed, code := impl.TrimPoly(append(powerPoly(length-1, 3), make(impl.Poly, zeros)...))
			if length <= 21 {
				wantList(t, fmt.Sprint("TrimPoly of ", length, " nimbers"), trimmed, code, powerPoly(length-1, 3))
			} else {
				call("TrimPoly", trimmed, code).wantCode(t, fmt.Sprint(length, " nimbers"), impl.ErrLimit)
			}
		}
	}
	long := make([]impl.Nimber, 1_000_000)
	copy(long, slices.Repeat([]impl.Nimber{65535}, 21))
	trimmed, code := impl.TrimPoly(long)
	wantList(t, "TrimPoly of a great list", trimmed, code, slices.Repeat(impl.Poly{65535}, 21))
}

// polyResults is the text of what all functions of polynomials and of lists return.
func polyResults(a, b impl.Poly, list []impl.Nimber, spots []impl.Spot) string {
	text := fmt.Sprint(onePolyCalls(a, 3, 3), onePolyCalls(b, 40000, 1), twoPolyCalls(a, b), twoPolyCalls(b, a), twoPolyCalls(a, a), twoPolyCalls(b, b))
	trimmed, one := impl.TrimPoly(list)
	from, two := impl.FromRoots(list)
	through, three := impl.PolyThrough(spots)
	back, four := impl.ReadPoly(impl.PolyText(a))
	return text + fmt.Sprint(trimmed, one, from, two, through, three, back, four, impl.ValidPoly(a), impl.SamePoly(a, b), impl.PolyText(a), impl.PolyText(b))
}

// somePolys are some of all degrees, and some that are not valid.
func somePolys() []impl.Poly {
	list := []impl.Poly{nil, {0}, {1, 0}, powerPoly(21, 1)}
	for i, p := range polys() {
		if i%7 == 0 {
			list = append(list, p)
		}
	}
	return append(list, polyWith(3, 1, 1, 2), polyWith(7, 1, 2, 5, 5))
}

func TestPolynomialsAreNotModified(t *testing.T) {
	for _, a := range somePolys() {
		for _, b := range somePolys() {
			first, second, list, spots := withRoom(a, 6), withRoom(b, 7), withRoom([]impl.Nimber{5, 0, 5, 9, 0, 0}, 8), withRoom([]impl.Spot{{X: 3, Y: 1}, {X: 1, Y: 5}, {X: 0}}, impl.Spot{X: 9, Y: 9})
			shown := func() string {
				return fmt.Sprint(first[:cap(first)], second[:cap(second)], list[:cap(list)], spots[:cap(spots)])
			}
			before := shown()
			got := polyResults(first, second, list, spots)
			if after := shown(); after != before {
				t.Errorf("%s became %s", before, after)
			}
			if again := polyResults(first, second, list, spots); again != got {
				t.Errorf("%v and %v have other results the second time", a, b)
			}
			if other := polyResults(slices.Clip(slices.Clone(a)), slices.Clip(slices.Clone(b)), []impl.Nimber{5, 0, 5, 9, 0, 0}, []impl.Spot{{X: 3, Y: 1}, {X: 1, Y: 5}, {X: 0}}); other != got {
				t.Errorf("%v and %v have other results with unused capacity", a, b)
			}
		}
	}
}

func TestNilAndEmptyPolynomialsAreEquivalent(t *testing.T) {
	for _, p := range somePolys() {
		want := polyResults(nil, p, nil, nil)
		if got := polyResults(impl.Poly{}, p, []impl.Nimber{}, []impl.Spot{}); got != want {
			t.Errorf("nil: %s, empty: %s", want, got)
		}
	}
}

func TestEqualPolynomialsHaveEqualResultsAtOnce(t *testing.T) {
	wantSameAtOnce(t, func() string {
		text := fmt.Sprint(impl.MinimalPoly(40000), impl.MinimalPoly(0), impl.MinimalPoly(300))
		for _, a := range somePolys() {
			for _, b := range somePolys()[:8] {
				text += polyResults(a, b, a, []impl.Spot{{X: 7, Y: 8}, {X: 8, Y: 7}})
			}
		}
		return text
	})
}

// polyLists calls all functions that return polynomials or roots, and has their results.
func polyLists(a, b impl.Poly, list []impl.Nimber, spots []impl.Spot) map[string][]impl.Nimber {
	lists := map[string][]impl.Nimber{}
	add := func(name string, p []impl.Nimber, _ int64) { lists[name] = p }
	p, code := impl.TrimPoly(list)
	add("TrimPoly", p, code)
	p, code = impl.PlusPoly(a, b)
	add("PlusPoly", p, code)
	p, code = impl.TimesPoly(a, b)
	add("TimesPoly", p, code)
	p, code = impl.ScalePoly(a, 1)
	add("ScalePoly", p, code)
	quotient, rest, code := impl.DividePoly(a, b)
	add("the quotient", quotient, code)
	add("the rest", rest, code)
	p, code = impl.CommonPoly(a, b)
	add("CommonPoly", p, code)
	u, v, code := impl.BezoutOf(a, b)
	add("the first factor", u, code)
	add("the second factor", v, code)
	p, code = impl.PolyIn(a, b)
	add("PolyIn", p, code)
	p, code = impl.SlopeOf(a)
	add("SlopeOf", p, code)
	p, code = impl.MonicOf(a)
	add("MonicOf", p, code)
	p, code = impl.FromRoots(list)
	add("FromRoots", p, code)
	roots, code := impl.RootsIn(a, 3)
	add("RootsIn", roots, code)
	p, code = impl.PolyThrough(spots)
	add("PolyThrough", p, code)
	add("MinimalPoly", impl.MinimalPoly(list[0]), impl.OK)
	p, code = impl.RootOfPoly(a)
	add("RootOfPoly", p, code)
	p, code = impl.ReadPoly(impl.PolyText(a))
	add("ReadPoly", p, code)
	return lists
}

// Each result is overwritten, with all its capacity, and then looked for in all arguments and in all other results.
func TestReturnedPolynomialsAreNew(t *testing.T) {
	pairs := [][2]impl.Poly{}
	for _, a := range append(somePolys(), impl.Poly{1}, impl.Poly{0, 1}, impl.Poly{3, 0, 1}) {
		for _, b := range []impl.Poly{nil, {1}, {2}, {0, 1}, {1, 1}, {1, 2, 3}, a} {
			pairs = append(pairs, [2]impl.Poly{a, b})
		}
	}
	for _, pair := range pairs {
		a, b, list, spots := withRoom(pair[0], 6), withRoom(pair[1], 7), withRoom([]impl.Nimber{5, 5, 9}, 8), withRoom([]impl.Spot{{X: 3, Y: 1}, {X: 1, Y: 5}}, impl.Spot{X: 9, Y: 9})
		lists := polyLists(a, b, list, spots)
		shown := func(without string) string {
			text := fmt.Sprint(a[:cap(a)], b[:cap(b)], list[:cap(list)], spots[:cap(spots)])
			for _, name := range []string{"TrimPoly", "PlusPoly", "TimesPoly", "ScalePoly", "the quotient", "the rest", "CommonPoly", "the first factor", "the second factor", "PolyIn", "SlopeOf", "MonicOf", "FromRoots", "RootsIn", "PolyThrough", "MinimalPoly", "RootOfPoly", "ReadPoly"} {
				if name != without {
					text += fmt.Sprint(lists[name])
				}
			}
			return text
		}
		for name := range lists {
			before := shown(name)
			spoil(lists[name])
			if after := shown(name); after != before {
				t.Errorf("a change of %s of %v and %v changed %s to %s", name, pair[0], pair[1], before, after)
			}
		}
		after := polyLists(pair[0], pair[1], []impl.Nimber{5, 5, 9}, []impl.Spot{{X: 3, Y: 1}, {X: 1, Y: 5}})
		for name, again := range after {
			spoil(lists[name]) // back to what it was
			if !slices.Equal(again, lists[name]) {
				t.Errorf("%s of %v and %v = %v, after a change of the first result, which was %v", name, pair[0], pair[1], again, lists[name])
			}
		}
	}
}
