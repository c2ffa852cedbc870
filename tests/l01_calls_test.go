package tests

import (
	"fmt"
	"math"
	"slices"
	"strings"
	"sync"
	"testing"

	"loop.example/g01307/impl"
)

// Promise 1 for the functions of chapter 1: they return for all arguments, modify none, and depend on nothing else.

func TestCodeName(t *testing.T) {
	for code, want := range []string{"ok", "invalid", "range", "limit", "state", "syntax", "notfound", "budget", "proof"} {
		if got := impl.CodeName(int64(code)); got != want {
			t.Errorf("CodeName(%d) = %q, want %q", code, got, want)
		}
	}
	for _, code := range []int64{-1, 9, 10, 256, 1 << 32, math.MinInt64, math.MaxInt64} {
		if got := impl.CodeName(code); got != "" {
			t.Errorf("CodeName(%d) = %q, want the empty string", code, got)
		}
	}
}

// unaryResults is the text of what all functions of one nimber return.
func unaryResults(a impl.Nimber) string {
	inverse, one := impl.InverseOf(a)
	order, two := impl.OrderOf(a)
	half, three := impl.HalfRoot(a)
	return fmt.Sprint(impl.LevelOf(a), impl.SquareOf(a), impl.RootOf(a), inverse, one, order, two, impl.TraceOf(a),
		impl.ConjugatesOf(a), half, three, impl.NimText(a))
}

// binaryResults is the text of what all functions of two nimbers return.
func binaryResults(a, b impl.Nimber) string {
	quotient, one := impl.OverNim(a, b)
	log, two := impl.LogOf(a, b)
	least, three := impl.TimesByExclusion(a%8, b)
	return fmt.Sprint(impl.PlusNim(a, b), impl.TimesNim(a, b), quotient, one, log, two, least, three, impl.QuadraticRoots(a, b))
}

// numberResults is the text of what all functions of a number return.
func numberResults(a impl.Nimber, n int64) string {
	power, one := impl.PowerOf(a, n)
	least, two := impl.LeastGenerator(n)
	return fmt.Sprint(power, one, least, two, impl.CodeName(n))
}

// listResults is the text of what all functions of a list return.
func listResults(list []impl.Nimber) string {
	least, one := impl.ExcludedBy(list)
	at, to, two := impl.LeadingMove(list)
	text := impl.NimsText(list)
	back, three := impl.ReadNims(text)
	return fmt.Sprint(least, one, impl.SumOf(list), impl.ProductOf(list), at, to, two, text, back, three)
}

func numbers() []int64 {
	return []int64{math.MinInt64, -1 << 40, -2, -1, 0, 1, 2, 3, 4, 5, 8, 9, 65535, 1<<40 - 1, 1 << 40, 1<<40 + 1, math.MaxInt64}
}

func TestEqualArgumentsHaveEqualResults(t *testing.T) {
	list := samples()
	for _, a := range list {
		first := unaryResults(a)
		for _, b := range []impl.Nimber{0, 1, 3, 16, 300, 65535} {
			pair := binaryResults(a, b)
			if again := binaryResults(a, b); again != pair {
				t.Errorf("%d and %d: first %s, then %s", a, b, pair, again)
			}
		}
		if again := unaryResults(a); again != first {
			t.Errorf("%d: first %s, then %s", a, first, again)
		}
		for _, n := range numbers() {
			first := numberResults(a, n)
			if again := numberResults(a, n); again != first {
				t.Errorf("%d and %d: first %s, then %s", a, n, first, again)
			}
		}
	}
}

// wantSameAtOnce checks that results are the same when many calls run at once as they are alone.
func wantSameAtOnce(t *testing.T, results func() string) {
	t.Helper()
	want := results()
	got := make([]string, 8)
	var group sync.WaitGroup
	for i := range got {
		group.Go(func() { got[i] = results() })
	}
	group.Wait()
	for i := range got {
		if got[i] != want {
			t.Errorf("call %d at once with others differs", i)
		}
	}
}

func TestCallsAtOnceHaveTheSameResults(t *testing.T) {
	results := func() string {
		var all []string
		for _, a := range samples()[:30] {
			all = append(all, unaryResults(a), binaryResults(a, 7), numberResults(a, 3), listResults([]impl.Nimber{a, 1, a, 500}))
		}
		return strings.Join(all, "\n")
	}
	wantSameAtOnce(t, results)
}

func TestListsAreNotModified(t *testing.T) {
	for _, length := range []int{0, 1, 2, 3, 10, 1000, 1001} {
		whole := make([]impl.Nimber, length+8)
		for i := range whole {
			whole[i] = impl.Nimber(65535 - i*i*37)
		}
		before := slices.Clone(whole)
		first := listResults(whole[:length])
		again := listResults(whole[:length])
		if !slices.Equal(whole, before) {
			t.Errorf("a list of %d nimbers, or its unused capacity, was modified", length)
		}
		if first != again {
			t.Errorf("a list of %d nimbers has other results the second time", length)
		}
		if other := listResults(slices.Clip(slices.Clone(before[:length]))); other != first {
			t.Errorf("a list of %d nimbers has other results with another capacity", length)
		}
	}
}

func TestNilAndEmptyListsAreEquivalent(t *testing.T) {
	if a, b := listResults(nil), listResults([]impl.Nimber{}); a != b {
		t.Errorf("nil: %s, empty: %s", a, b)
	}
	if sum, product := impl.SumOf(nil), impl.ProductOf(nil); sum != 0 || product != 1 {
		t.Errorf("the empty list has the sum %d and the product %d", sum, product)
	}
	if least, code := impl.ExcludedBy(nil); least != 0 || code != impl.OK {
		t.Errorf("ExcludedBy of the empty list = %d, %d", least, code)
	}
	if at, to, code := impl.LeadingMove(nil); at != 0 || to != 0 || code != impl.ErrNotFound {
		t.Errorf("LeadingMove of the empty list = %d, %d, %d", at, to, code)
	}
}

// spoil overwrites a list and its unused capacity.
func spoil(list []impl.Nimber) {
	list = list[:cap(list)]
	for i := range list {
		list[i] ^= 0x5555
	}
}

func TestReturnedListsAreNew(t *testing.T) {
	calls := map[string]func() []impl.Nimber{
		"ConjugatesOf 0":       func() []impl.Nimber { return impl.ConjugatesOf(0) },
		"ConjugatesOf 40000":   func() []impl.Nimber { return impl.ConjugatesOf(40000) },
		"QuadraticRoots 0 7":   func() []impl.Nimber { return impl.QuadraticRoots(0, 7) },
		"QuadraticRoots 3 0":   func() []impl.Nimber { return impl.QuadraticRoots(3, 0) },
		"QuadraticRoots 1 1":   func() []impl.Nimber { return impl.QuadraticRoots(1, 1) },
		"ReadNims *1 *2 *3":    func() []impl.Nimber { list, _ := impl.ReadNims("*1 *2 *3"); return list },
		"ReadNims of no text":  func() []impl.Nimber { list, _ := impl.ReadNims(""); return list },
		"ReadNims of bad text": func() []impl.Nimber { list, _ := impl.ReadNims("*1 *2 3"); return list },
	}
	for name, call := range calls {
		first := call()
		kept := slices.Clone(first)
		second := call()
		spoil(first)
		if !slices.Equal(second, kept) {
			t.Errorf("%s: a change of one result changed another one", name)
		}
		if third := call(); !slices.Equal(third, kept) {
			t.Errorf("%s: a change of a result changed a later one", name)
		}
	}
}

func TestGreatLists(t *testing.T) {
	const length = 1_000_000
	list := make([]impl.Nimber, length)
	sum, log := impl.Nimber(0), 0
	o := theOracle()
	for i := range list {
		list[i] = impl.Nimber(i*i%units + 1)
		sum ^= list[i]
		log = (log + o.log[list[i]]) % units
	}
	if got := impl.SumOf(list); got != sum {
		t.Errorf("SumOf = %d, want %d", got, sum)
	}
	if got := impl.ProductOf(list); got != impl.Nimber(o.exp[log]) {
		t.Errorf("ProductOf = %d, want %d", got, o.exp[log])
	}
	first := slices.IndexFunc(list, func(a impl.Nimber) bool { return a^sum < a })
	if at, to, code := impl.LeadingMove(list); first < 0 || at != int64(first) || to != list[at]^sum || code != impl.OK {
		t.Errorf("LeadingMove = %d, %d, %d, want the heap %d", at, to, code, first)
	}
	if least, code := impl.ExcludedBy(list); least != 0 || code != impl.ErrLimit {
		t.Errorf("ExcludedBy = %d, %d", least, code)
	}
	if back, code := impl.ReadNims(impl.NimsText(list)); code != impl.OK || !slices.Equal(back, list) {
		t.Errorf("ReadNims of the text of a great list = %d nimbers, %d", len(back), code)
	}
	for _, part := range []string{" ", "*", "1", "*1", "*1 ", "\x00", "\xff"} {
		if list, code := impl.ReadNims(strings.Repeat(part, length/len(part))); len(list) != 0 || code != impl.ErrSyntax {
			t.Errorf("ReadNims of %q many times = %d nimbers, %d", part, len(list), code)
		}
		if a, code := impl.ReadNim("*" + strings.Repeat(part, length/len(part))); a != 0 || code != impl.ErrSyntax {
			t.Errorf("ReadNim of * and %q many times = %d, %d", part, a, code)
		}
	}
}
