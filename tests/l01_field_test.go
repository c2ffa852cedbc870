package tests

import (
	"math"
	"slices"
	"testing"

	"loop.example/g01307/impl"
)

// Promise 2: nimbers are a field; each one but 0 has an inverse, and each one has a root.

func TestSumsHaveTheBitsOfOneAlone(t *testing.T) {
	for a := range all {
		for _, b := range []impl.Nimber{0, 1, 2, 255, 256, 43690, 65535, a} {
			want := impl.Nimber(0)
			for bit := impl.Nimber(1); bit != 0; bit <<= 1 {
				if (a&bit == 0) != (b&bit == 0) {
					want |= bit
				}
			}
			if got := impl.PlusNim(a, b); got != want {
				t.Fatalf("PlusNim(%d, %d) = %d, want %d", a, b, got, want)
			}
		}
	}
}

func TestFieldRules(t *testing.T) {
	list := samples()
	for _, a := range list {
		for _, b := range list {
			ab := impl.TimesNim(a, b)
			if ab != impl.TimesNim(b, a) {
				t.Errorf("TimesNim(%d, %d) depends on the order", a, b)
			}
			if (ab == 0) != (a == 0 || b == 0) {
				t.Errorf("TimesNim(%d, %d) = %d", a, b, ab)
			}
			for _, c := range list {
				if impl.TimesNim(ab, c) != impl.TimesNim(a, impl.TimesNim(b, c)) {
					t.Fatalf("the product of %d, %d and %d depends on the brackets", a, b, c)
				}
				if impl.TimesNim(a, impl.PlusNim(b, c)) != impl.PlusNim(ab, impl.TimesNim(a, c)) {
					t.Fatalf("the product of %d and the sum of %d and %d is not that of the parts", a, b, c)
				}
			}
		}
	}
}

func TestZeroAndOne(t *testing.T) {
	for a := range all {
		if impl.PlusNim(a, 0) != a || impl.PlusNim(a, a) != 0 || impl.PlusNim(0, a) != a {
			t.Fatalf("sums of %d and 0, or itself", a)
		}
		if impl.TimesNim(a, 1) != a || impl.TimesNim(1, a) != a || impl.TimesNim(a, 0) != 0 || impl.TimesNim(0, a) != 0 {
			t.Fatalf("products of %d and 0 or 1", a)
		}
	}
}

func TestEachNimberButZeroHasAnInverse(t *testing.T) {
	if a, code := impl.InverseOf(0); a != 0 || code != impl.ErrState {
		t.Errorf("InverseOf(0) = %d, %d", a, code)
	}
	for a := range all {
		if a == 0 {
			continue
		}
		inverse, code := impl.InverseOf(a)
		if code != impl.OK || impl.TimesNim(a, inverse) != 1 || theOracle().times(a, inverse) != 1 {
			t.Fatalf("InverseOf(%d) = %d, %d", a, inverse, code)
		}
	}
}

func TestEachNimberHasARoot(t *testing.T) {
	seen := map[impl.Nimber]bool{}
	for a := range all {
		square := theOracle().times(a, a)
		if got := impl.SquareOf(a); got != square {
			t.Fatalf("SquareOf(%d) = %d, want %d", a, got, square)
		}
		if root := impl.RootOf(square); root != a {
			t.Fatalf("RootOf(%d) = %d, want %d", square, root, a)
		}
		seen[square] = true
	}
	if len(seen) != 65536 {
		t.Errorf("%d nimbers are squares", len(seen))
	}
}

func TestQuotients(t *testing.T) {
	for _, a := range samples() {
		for _, b := range samples() {
			quotient, code := impl.OverNim(a, b)
			if b == 0 && (quotient != 0 || code != impl.ErrState) {
				t.Errorf("OverNim(%d, 0) = %d, %d", a, quotient, code)
			}
			if b != 0 && (code != impl.OK || theOracle().times(quotient, b) != a) {
				t.Errorf("OverNim(%d, %d) = %d, %d", a, b, quotient, code)
			}
		}
	}
}

func TestLevels(t *testing.T) {
	for a := range all {
		want := int64(0)
		for int(a) >= levelBound(want) {
			want++
		}
		if got := impl.LevelOf(a); got != want {
			t.Fatalf("LevelOf(%d) = %d, want %d", a, got, want)
		}
	}
}

func TestLevelsAreFields(t *testing.T) {
	for level := range int64(impl.MaxLevel) {
		bound := levelBound(level)
		for a := range impl.Nimber(bound) {
			for b := range impl.Nimber(bound) {
				if int(impl.TimesNim(a, b)) >= bound || int(impl.PlusNim(a, b)) >= bound {
					t.Fatalf("the sum or product of %d and %d leaves the level %d", a, b, level)
				}
			}
			if inverse, code := impl.InverseOf(a); (code == impl.OK) != (a != 0) || int(inverse) >= bound || int(impl.RootOf(a)) >= bound {
				t.Fatalf("the inverse or root of %d leaves the level %d", a, level)
			}
		}
	}
}

func TestPowers(t *testing.T) {
	for _, a := range samples() {
		power := impl.Nimber(1)
		for n := range int64(40) {
			if got, code := impl.PowerOf(a, n); got != power || code != impl.OK {
				t.Errorf("PowerOf(%d, %d) = %d, %d, want %d", a, n, got, code, power)
			}
			power = theOracle().times(power, a)
		}
		for _, n := range []int64{65534, 65535, 65536, 65537, 1 << 20, 1<<32 + 5, 1<<39 + 12345, 1<<40 - 1, 1 << 40} {
			if got, code := impl.PowerOf(a, n); got != theOracle().power(a, n) || code != impl.OK {
				t.Errorf("PowerOf(%d, %d) = %d, %d", a, n, got, code)
			}
		}
		for _, n := range []int64{math.MinInt64, -1 << 40, -65535, -1, 1<<40 + 1, 1 << 41, math.MaxInt64} {
			if got, code := impl.PowerOf(a, n); got != 0 || code != impl.ErrRange {
				t.Errorf("PowerOf(%d, %d) = %d, %d", a, n, got, code)
			}
		}
	}
}

func TestOrders(t *testing.T) {
	if n, code := impl.OrderOf(0); n != 0 || code != impl.ErrState {
		t.Errorf("OrderOf(0) = %d, %d", n, code)
	}
	for a := range all {
		if a == 0 {
			continue
		}
		log, common := theOracle().log[a], units
		for log != 0 {
			log, common = common%log, log
		}
		if n, code := impl.OrderOf(a); n != int64(units/common) || code != impl.OK {
			t.Fatalf("OrderOf(%d) = %d, %d, want %d", a, n, code, units/common)
		}
	}
}

func TestOrdersAreTheLeastOnes(t *testing.T) {
	for _, a := range samples() {
		order, code := impl.OrderOf(a)
		if code != impl.OK {
			continue
		}
		power := a
		for n := int64(1); n < order; n++ {
			if power == 1 {
				t.Fatalf("OrderOf(%d) = %d, but %d is enough", a, order, n)
			}
			power = impl.TimesNim(power, a)
		}
		if power != 1 {
			t.Errorf("OrderOf(%d) = %d, but this power is %d", a, order, power)
		}
	}
}

// generates reports whether all nimbers but 0 that are less than bound are powers of a.
func generates(a impl.Nimber, bound int) bool {
	seen := map[impl.Nimber]bool{}
	for power := impl.Nimber(1); !seen[power]; power = theOracle().times(power, a) {
		seen[power] = true
	}
	for b := 1; b < bound; b++ {
		if !seen[impl.Nimber(b)] {
			return false
		}
	}
	return true
}

func TestLeastGenerators(t *testing.T) {
	for level := int64(1); level <= impl.MaxLevel; level++ {
		want := impl.Nimber(0)
		for !generates(want, levelBound(level)) {
			want++
		}
		if got, code := impl.LeastGenerator(level); got != want || code != impl.OK {
			t.Errorf("LeastGenerator(%d) = %d, %d, want %d", level, got, code, want)
		}
	}
	for _, level := range []int64{math.MinInt64, -1, 0, 5, 6, 64, 1<<32 + 1, math.MaxInt64} {
		if got, code := impl.LeastGenerator(level); got != 0 || code != impl.ErrRange {
			t.Errorf("LeastGenerator(%d) = %d, %d", level, got, code)
		}
	}
}

// leastLogs has the least exponent of each power of a base.
func leastLogs(base impl.Nimber) map[impl.Nimber]int64 {
	logs := map[impl.Nimber]int64{}
	power := impl.Nimber(1)
	for n := int64(0); ; n++ {
		if _, found := logs[power]; found {
			return logs
		}
		logs[power] = n
		power = theOracle().times(power, base)
	}
}

func checkLog(t *testing.T, logs map[impl.Nimber]int64, base, a impl.Nimber) {
	t.Helper()
	want, found := logs[a]
	wantCode := int64(impl.OK)
	if !found {
		wantCode = impl.ErrNotFound
	}
	if n, code := impl.LogOf(base, a); n != want || code != wantCode {
		t.Errorf("LogOf(%d, %d) = %d, %d, want %d, %d", base, a, n, code, want, wantCode)
	}
}

func TestLogarithms(t *testing.T) {
	top, _ := impl.LeastGenerator(impl.MaxLevel)
	bases := append([]impl.Nimber{0, 1, 2, 3, 4, 7, 16, 19, 255, 256, 257, 65535}, top)
	for _, base := range bases {
		logs := leastLogs(base)
		for a := 0; a < 65536; a += 97 {
			checkLog(t, logs, base, impl.Nimber(a))
		}
		for a := range impl.Nimber(40) {
			checkLog(t, logs, base, a)
		}
		checkLog(t, logs, base, base)
		for _, n := range []int64{254, 255, 256, 257, 511, 512, 65278, 65279, 65280, 65533, 65534, 65535} {
			checkLog(t, logs, base, theOracle().power(base, n))
		}
	}
}

func TestLogarithmsOfSmallLevels(t *testing.T) {
	for base := range impl.Nimber(16) {
		logs := leastLogs(base)
		for a := range impl.Nimber(20) {
			checkLog(t, logs, base, a)
		}
	}
}

func TestSumsAndProductsOfLists(t *testing.T) {
	list := samples()
	for length := range list {
		sum, product := impl.Nimber(0), impl.Nimber(1)
		part := slices.Clone(list[length:])
		for _, a := range part {
			sum, product = sum^a, theOracle().times(product, a)
		}
		if got := impl.SumOf(part); got != sum {
			t.Errorf("SumOf(%v) = %d, want %d", part, got, sum)
		}
		if got := impl.ProductOf(part); got != product {
			t.Errorf("ProductOf(%v) = %d, want %d", part, got, product)
		}
	}
	if got := impl.ProductOf(list); got != 0 {
		t.Errorf("ProductOf a list with 0 = %d", got)
	}
}
