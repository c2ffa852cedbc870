package tests

import (
	"fmt"
	"math"
	"slices"
	"strings"
	"testing"

	"loop.example/g01307/impl"
)

// Promise 13: a polynomial through spots has their values, and one from roots has them as often as told; minimal polynomials and squares.

// rootLists are lists of all lengths up to MaxDegree, some with nimbers that come several times.
func rootLists() [][]impl.Nimber {
	d := dice(21)
	list := [][]impl.Nimber{nil, make([]impl.Nimber, 20), slices.Repeat([]impl.Nimber{1}, 20), slices.Repeat([]impl.Nimber{65535}, 20), slices.Repeat([]impl.Nimber{7, 300}, 10)}
	for length := 1; length <= impl.MaxDegree; length++ {
		for _, bound := range []int{2, 4, 16, 256, 65536} {
			roots := make([]impl.Nimber, length)
			for i := range roots {
				roots[i] = impl.Nimber(d.next(bound))
			}
			list = append(list, roots)
		}
	}
	return list
}

func countIn(list []impl.Nimber, x impl.Nimber) int64 {
	count := int64(0)
	for _, a := range list {
		if a == x {
			count++
		}
	}
	return count
}

func TestPolynomialsFromRoots(t *testing.T) {
	for _, roots := range rootLists() {
		p, code := impl.FromRoots(roots)
		wantPoly(t, fmt.Sprint("FromRoots ", roots), p, code, func(x impl.Nimber) impl.Nimber { return rootsValue(roots, x) })
		if len(p) != len(roots)+1 || p[len(roots)] != 1 {
			t.Errorf("FromRoots %v = %v", roots, p)
		}
	}
}

func TestFromRootsByHand(t *testing.T) {
	for text, roots := range map[string][]impl.Nimber{
		"*1":                                     nil,
		"*0 *1":                                  {0},
		"*65535 *1":                              {65535},
		"*2 *3 *1":                               {1, 2},
		"*1 *0 *1":                               {1, 1},
		"*0 *0 *0 *1":                            {0, 0, 0},
		"*1 *1 *1 *1":                            {1, 1, 1},
		"*1 *1 *1":                               {2, 3},
		strings.Repeat("*0 ", 20) + "*1":         make([]impl.Nimber, 20),
		strings.Repeat("*0 ", 4) + "*7 *1":       {0, 0, 7, 0, 0},
		"*0 *1 *0 *0 *1":                         {3, 2, 1, 0},
		"*1" + strings.Repeat(" *0", 15) + " *1": slices.Repeat([]impl.Nimber{1}, 16),
	} {
		p, code := impl.FromRoots(roots)
		wantText(t, fmt.Sprint("FromRoots ", roots), p, code, text)
	}
}

func TestTooManyRoots(t *testing.T) {
	for _, length := range []int{21, 22, 40, 255, 256, 257, 276, 65536, 65537, 1_000_000} {
		for _, root := range []impl.Nimber{0, 1, 65535} {
			p, code := impl.FromRoots(slices.Repeat([]impl.Nimber{root}, length))
			call("FromRoots", p, code).wantCode(t, fmt.Sprint(length, " roots"), impl.ErrLimit)
		}
	}
}

// checkRoots checks the roots of all levels.
func checkRoots(t *testing.T, p impl.Poly) int {
	t.Helper()
	var want []impl.Nimber
	next := 0
	for level := range int64(4) {
		for ; next < levelBound(level); next++ {
			if valueOf(p, impl.Nimber(next)) == 0 {
				want = append(want, impl.Nimber(next))
			}
		}
		if roots, code := impl.RootsIn(p, level); code != impl.OK || !slices.Equal(roots, want) {
			t.Errorf("RootsIn %v and %d = %v, %d, want %v", p, level, roots, code, want)
		}
	}
	return len(want)
}

func TestRootsOfPolynomials(t *testing.T) {
	none, some := 0, 0
	for _, p := range polys()[1:] {
		if checkRoots(t, p) == 0 {
			none++
		} else {
			some++
		}
	}
	if none < 20 || some < 20 {
		t.Errorf("%d polynomials have roots, and %d have none: the test shows little", some, none)
	}
	for _, list := range [][]impl.Poly{smallPolys(2, 5), smallPolys(4, 3), rootless(20)} {
		for _, p := range list {
			if len(p) > 0 {
				checkRoots(t, p)
			}
		}
	}
}

func TestRootsOfTold(t *testing.T) {
	d := dice(22)
	plain := rootless(1)[0]
	full := 0
	for _, roots := range rootLists() {
		p := polyWith(impl.Nimber(1+d.next(65535)), roots...)
		if checkRoots(t, p) == 20 {
			full++
		}
		if len(p) <= 19 {
			checkRoots(t, productOf(p, plain))
		}
	}
	if full == 0 {
		t.Errorf("no polynomial has so many roots as its degree can be")
	}
}

// The nimbers of a level are the roots of the sum of x and of its power that has as many.
func TestRootsOfAWholeLevel(t *testing.T) {
	for level, bound := range []int{2, 4, 16} {
		p := powerPoly(bound, 1)
		p[1] = 1
		for more := int64(level); more < 4; more++ {
			roots, code := impl.RootsIn(p, more)
			if code != impl.OK || len(roots) != bound || roots[bound-1] != impl.Nimber(bound-1) {
				t.Errorf("RootsIn %v and %d = %v, %d", p, more, roots, code)
			}
		}
		if less := int64(level) - 1; less >= 0 {
			roots, code := impl.RootsIn(p, less)
			if code != impl.OK || len(roots) != levelBound(less) {
				t.Errorf("RootsIn %v and %d = %v, %d", p, less, roots, code)
			}
		}
	}
}

func TestRootsAtTheEndsOfLevels(t *testing.T) {
	ends := []impl.Nimber{0, 1, 2, 3, 4, 15, 16, 17, 254, 255, 256, 257, 65535}
	p := polyWith(5, ends...)
	for level, count := range []int{2, 4, 6, 10} {
		if roots, code := impl.RootsIn(p, int64(level)); code != impl.OK || !slices.Equal(roots, ends[:count]) {
			t.Errorf("RootsIn of level %d = %v, %d", level, roots, code)
		}
	}
}

func TestLevelsThatAreNone(t *testing.T) {
	for _, level := range []int64{math.MinInt64, -1 << 32, -256, -4, -2, -1, 4, 5, 6, 16, 64, 255, 256, 259, 1 << 32, 1<<32 + 3, math.MaxInt64} {
		for _, p := range append(polys(), nil) { // ErrRange comes before ErrState, which is for 0
			roots, code := impl.RootsIn(p, level)
			call("RootsIn", roots, code).wantCode(t, fmt.Sprint(p, level), impl.ErrRange)
		}
	}
	for level := range int64(4) {
		roots, code := impl.RootsIn(nil, level)
		call("RootsIn", roots, code).wantCode(t, fmt.Sprint("0 and ", level), impl.ErrState)
	}
}

func TestRootsThatComeSeveralTimes(t *testing.T) {
	plain := rootless(1)[0]
	for _, roots := range rootLists() {
		p := polyWith(9, roots...)
		list := []impl.Poly{p}
		if len(p) <= 19 {
			list = append(list, productOf(p, plain))
		}
		for _, p := range list {
			for _, x := range append(samples()[:24], roots...) {
				if times, code := impl.TimesRoot(p, x); times != countIn(roots, x) || code != impl.OK {
					t.Errorf("TimesRoot of %v and %d = %d, %d, the roots being %v", p, x, times, code, roots)
				}
			}
		}
	}
	for times := range 21 {
		for _, x := range samples() {
			if got, code := impl.TimesRoot(polyWith(65535, slices.Repeat([]impl.Nimber{x}, times)...), x); got != int64(times) || code != impl.OK {
				t.Errorf("%d is a root %d times, and TimesRoot tells %d, %d", x, times, got, code)
			}
		}
	}
}

func TestTimesRootOfPolynomials(t *testing.T) {
	for _, p := range polys()[1:] {
		for _, x := range samples() {
			if times, code := impl.TimesRoot(p, x); times != timesRootOf(p, x) || code != impl.OK {
				t.Errorf("TimesRoot of %v and %d = %d, %d, want %d", p, x, times, code, timesRootOf(p, x))
			}
		}
	}
	for _, list := range [][]impl.Poly{smallPolys(2, 6), smallPolys(4, 4)} {
		for _, p := range list[1:] {
			for x := range impl.Nimber(5) {
				if times, code := impl.TimesRoot(p, x); times != timesRootOf(p, x) || code != impl.OK {
					t.Errorf("TimesRoot of %v and %d = %d, %d, want %d", p, x, times, code, timesRootOf(p, x))
				}
			}
		}
	}
}

// What FromRoots makes has its roots, which RootsIn and TimesRoot find again.
func TestRootsComeBack(t *testing.T) {
	for _, roots := range rootLists() {
		p, code := impl.FromRoots(roots)
		found, two := impl.RootsIn(p, 3)
		var back []impl.Nimber
		for _, x := range found {
			times, three := impl.TimesRoot(p, x)
			back = append(back, slices.Repeat([]impl.Nimber{x}, int(times))...)
			code += three
		}
		want := slices.DeleteFunc(slices.Sorted(slices.Values(roots)), func(x impl.Nimber) bool { return x > 255 })
		if code+two != impl.OK || !slices.Equal(back, want) {
			t.Errorf("from the roots %v come %v back", roots, back)
		}
	}
}

// spotsOf has so many spots, with all X different, in any order.
func spotsOf(d *dice, count int, y func(x impl.Nimber) impl.Nimber) []impl.Spot {
	start, step := d.next(65536), 2*d.next(32768)+1
	list := make([]impl.Spot, count)
	for i := range list {
		x := impl.Nimber(start + i*step)
		list[i] = impl.Spot{X: x, Y: y(x)}
	}
	return list
}

// checkThrough checks values and a degree, with which there is one polynomial alone.
func checkThrough(t *testing.T, spots []impl.Spot) {
	t.Helper()
	p, code := impl.PolyThrough(spots)
	if code != impl.OK || !isValid(p) || len(p) > len(spots) {
		t.Errorf("PolyThrough %v = %v, %d", spots, p, code)
	}
	for _, spot := range spots {
		if value := valueOf(p, spot.X); value != spot.Y {
			t.Errorf("PolyThrough %v = %v, which has the value %d for %d", spots, p, value, spot.X)
		}
	}
}

func TestPolynomialsThroughSpots(t *testing.T) {
	d := dice(23)
	for count := range 21 {
		for _, bound := range []int{1, 2, 4, 256, 65536} {
			for range 5 {
				checkThrough(t, spotsOf(&d, count, func(impl.Nimber) impl.Nimber { return impl.Nimber(d.next(bound)) }))
			}
		}
		checkThrough(t, spotsOf(&d, count, func(x impl.Nimber) impl.Nimber { return x }))
		checkThrough(t, spotsOf(&d, count, func(impl.Nimber) impl.Nimber { return 65535 }))
	}
}

// With more spots than its degree, a polynomial comes back, in any order of the spots.
func TestPolynomialsComeBackFromSpots(t *testing.T) {
	d := dice(24)
	for _, p := range polys() {
		for _, count := range []int{len(p), len(p) + 1, 20} {
			if count < len(p) || count > 20 {
				continue
			}
			spots := spotsOf(&d, count, func(x impl.Nimber) impl.Nimber { return valueOf(p, x) })
			for range 2 {
				through, code := impl.PolyThrough(spots)
				wantList(t, fmt.Sprint("PolyThrough ", spots), through, code, p)
				slices.Reverse(spots)
			}
		}
	}
}

func TestAllSmallSpots(t *testing.T) {
	for xs := range 64 {
		for ys := range 64 {
			var spots []impl.Spot
			for i := range 3 {
				spots = append(spots, impl.Spot{X: impl.Nimber(xs >> (2 * i) & 3), Y: impl.Nimber(ys >> (2 * i) & 3)})
			}
			if spots[0].X != spots[1].X && spots[0].X != spots[2].X && spots[1].X != spots[2].X {
				checkThrough(t, spots)
				continue
			}
			p, code := impl.PolyThrough(spots)
			call("PolyThrough", p, code).wantCode(t, fmt.Sprint(spots), impl.ErrState)
		}
	}
}

func TestPolyThroughByHand(t *testing.T) {
	for text, spots := range map[string][]impl.Spot{
		"0":           nil,
		"*7":          {{X: 5, Y: 7}},
		"*0 *1":       {{X: 5, Y: 5}, {X: 0, Y: 0}},
		"*1 *2":       {{X: 0, Y: 1}, {X: 1, Y: 3}},
		"*1 *0 *1":    {{X: 0, Y: 1}, {X: 1, Y: 0}, {X: 2, Y: 2}},
		"*65535":      {{X: 65535, Y: 65535}, {X: 0, Y: 65535}, {X: 77, Y: 65535}},
		"*0 *1 *1":    {{X: 0}, {X: 1}, {X: 2, Y: 1}, {X: 3, Y: 1}},
		"*1 *0 *0 *1": {{X: 0, Y: 1}, {X: 1, Y: 0}, {X: 2, Y: 0}, {X: 3, Y: 0}},
	} {
		p, code := impl.PolyThrough(spots)
		wantText(t, fmt.Sprint("PolyThrough ", spots), p, code, text)
	}
	zero, code := impl.PolyThrough([]impl.Spot{{X: 5}, {X: 6}, {X: 7}})
	wantText(t, "PolyThrough of zeros", zero, code, "0")
}

// Two spots with the same X are found where they are, also if they have the same Y.
func TestSpotsWithTheSameX(t *testing.T) {
	d := dice(25)
	for count := 2; count <= 20; count++ {
		for first := range count {
			for second := range first {
				spots := spotsOf(&d, count, func(x impl.Nimber) impl.Nimber { return x / 3 })
				spots[first].X = spots[second].X
				for range 2 {
					p, code := impl.PolyThrough(spots)
					call("PolyThrough", p, code).wantCode(t, fmt.Sprint(spots), impl.ErrState)
					spots[first] = spots[second]
				}
			}
		}
	}
}

// ErrLimit comes before ErrState, so there are some with the same X.
func TestTooManySpots(t *testing.T) {
	d := dice(26)
	for _, count := range []int{21, 22, 40, 256, 257, 276, 65536, 65537, 1_000_000} {
		for _, spots := range [][]impl.Spot{make([]impl.Spot, count), spotsOf(&d, count, func(x impl.Nimber) impl.Nimber { return x })} {
			p, code := impl.PolyThrough(spots)
			call("PolyThrough", p, code).wantCode(t, fmt.Sprint(count, " spots"), impl.ErrLimit)
		}
	}
}

// A polynomial of nimbers 0 and 1 that is 0 for a nimber is so for its conjugates: with so many parts and one of 1 at the end, it is the least one.
func TestMinimalPolynomials(t *testing.T) {
	o := theOracle()
	for a := range all {
		count := 1
		for c := o.times(a, a); c != a; c = o.times(c, c) {
			count++
		}
		p := impl.MinimalPoly(a)
		if len(p) != count+1 || p[count] != 1 || slices.Max(p) > 1 || valueOf(p, a) != 0 {
			t.Fatalf("MinimalPoly of %d = %v, and there are %d conjugates", a, p, count)
		}
	}
}

func TestMinimalPolynomialsOfConjugates(t *testing.T) {
	for _, a := range samples() {
		want := impl.MinimalPoly(a)
		for _, c := range impl.ConjugatesOf(a) {
			if p := impl.MinimalPoly(c); !slices.Equal(p, want) {
				t.Errorf("MinimalPoly of %d = %v, and of its conjugate %d %v", a, want, c, p)
			}
		}
		if times, code := impl.TimesRoot(want, a); times != 1 || code != impl.OK {
			t.Errorf("%d is a root of %v %d times, %d", a, want, times, code)
		}
		if simple, code := impl.IsSimple(want); !simple || code != impl.OK {
			t.Errorf("IsSimple of %v = %v, %d", want, simple, code)
		}
	}
	for a, want := range map[impl.Nimber]string{0: "*0 *1", 1: "*1 *1", 2: "*1 *1 *1", 3: "*1 *1 *1"} {
		wantText(t, fmt.Sprint("MinimalPoly of ", a), impl.MinimalPoly(a), impl.OK, want)
	}
}

func wantSimple(t *testing.T, p impl.Poly, want bool) {
	t.Helper()
	if simple, code := impl.IsSimple(p); simple != want || code != impl.OK {
		t.Errorf("IsSimple of %v = %v, %d", p, simple, code)
	}
}

// All products of a square and another one are not simple, and all others are.
func TestAllSmallSimplePolynomials(t *testing.T) {
	for _, size := range [][2]int{{2, 7}, {4, 4}} {
		list := smallPolys(size[0], size[1])
		squared := map[string]bool{}
		for _, d := range list {
			if square := productOf(d, d); len(d) > 1 && len(square) <= size[1] {
				for _, q := range list {
					squared[impl.NimsText(productOf(square, q))] = true
				}
			}
		}
		for _, p := range list[1:] {
			wantSimple(t, p, !squared[impl.NimsText(p)])
		}
	}
}

func TestSimplePolynomials(t *testing.T) {
	plain := rootless(2)
	yes, no := 0, 0
	for _, roots := range rootLists() {
		sorted := slices.Compact(slices.Sorted(slices.Values(roots)))
		want := len(sorted) == len(roots)
		p := polyWith(300, roots...)
		wantSimple(t, p, want)
		if len(p) <= 17 {
			wantSimple(t, productOf(p, productOf(plain[0], plain[1])), want)
			wantSimple(t, productOf(p, productOf(plain[0], plain[0])), false)
		}
		if want {
			yes++
		} else {
			no++
		}
	}
	if yes < 20 || no < 20 {
		t.Errorf("%d are simple, and %d are not: the test shows little", yes, no)
	}
	for _, c := range []impl.Nimber{1, 2, 65535} {
		wantSimple(t, impl.Poly{c}, true)
	}
}

func TestSquaresHaveRoots(t *testing.T) {
	for _, p := range polys() {
		if len(p) > 11 {
			continue
		}
		root, code := impl.RootOfPoly(productOf(p, p))
		wantList(t, fmt.Sprint("RootOfPoly of the square of ", p), root, code, p)
	}
}

func TestAllSmallSquares(t *testing.T) {
	for _, size := range [][2]int{{2, 7}, {4, 5}} {
		roots := map[string]impl.Poly{}
		for _, p := range smallPolys(size[0], (size[1]+1)/2) {
			roots[impl.NimsText(productOf(p, p))] = p
		}
		for _, p := range smallPolys(size[0], size[1]) {
			root, code := impl.RootOfPoly(p)
			if want, found := roots[impl.NimsText(p)]; found {
				wantList(t, fmt.Sprint("RootOfPoly of ", p), root, code, want)
			} else {
				call("RootOfPoly", root, code).wantCode(t, fmt.Sprint(p), impl.ErrNotFound)
			}
		}
	}
}

// One part with an odd number of x is enough.
func TestPolynomialsWithoutRootPolynomial(t *testing.T) {
	d := dice(27)
	for degree := range 11 {
		square := d.poly(degree, 65536)
		square = productOf(square, square)
		for at := 1; at < len(square); at += 2 {
			for _, a := range []impl.Nimber{1, 256, 65535} {
				p := slices.Clone(square)
				p[at] = a
				root, code := impl.RootOfPoly(p)
				call("RootOfPoly", root, code).wantCode(t, fmt.Sprint(p), impl.ErrNotFound)
			}
		}
		if len(square) < 21 {
			p := append(square, 1)
			root, code := impl.RootOfPoly(p)
			call("RootOfPoly", root, code).wantCode(t, fmt.Sprint(p), impl.ErrNotFound)
		}
	}
	for text, want := range map[string]string{"0": "0", "*1": "*1", "*3": "*2", "*3 *0 *1": "*2 *1", "*0 *0 *2": "*0 *3"} {
		root, code := impl.RootOfPoly(polyOf(t, text))
		wantText(t, "RootOfPoly of "+text, root, code, want)
	}
}
