package tests

import (
	"fmt"
	"math"
	"slices"
	"testing"

	"loop.example/g01307/impl"
)

// Promise 14: greedy codes are closed under sums and products, and are spanned by their bases; no two of their words are nearer than
// told, and no word could be added.

// taken is the code of a case, as the program takes it.
func taken(t *testing.T, c greedyCase) []impl.Word {
	t.Helper()
	list, code := impl.GreedyCode(c.base, int64(c.length), int64(c.apart))
	if code != impl.OK {
		t.Errorf("%s: GreedyCode has the code %d", c, code)
	}
	return list
}

func TestGreedyCodes(t *testing.T) {
	for _, c := range allGreedy() {
		list, code := impl.GreedyCode(c.base, int64(c.length), int64(c.apart))
		if c.isTooGreat() {
			call("GreedyCode", list, code).wantCode(t, c.String(), impl.ErrBudget)
			basis, code := impl.GreedyBasis(c.base, int64(c.length), int64(c.apart))
			call("GreedyBasis", basis, code).wantCode(t, c.String(), impl.ErrBudget)
			continue
		}
		wantWords(t, c.String(), list, code, c.words)
	}
}

// All codes that there are, by how many words they have; 0 stands for too many.
func TestSizesOfGreedyCodes(t *testing.T) {
	for base, sizes := range map[int64][][]int{
		2:   {{2}, {4, 2}, {8, 4, 2}, {16, 8, 2, 2}, {32, 16, 4, 2, 2}, {64, 32, 8, 4, 2, 2}, {128, 64, 16, 8, 2, 2, 2}},
		4:   {{4}, {16, 4}, {64, 16, 4}, {256, 64, 16, 4}, {0, 256, 64, 16, 4}, {0, 0, 64, 64, 4, 4}},
		16:  {{16}, {256, 16}, {0, 256, 16}},
		256: {{256}},
	} {
		for i, row := range sizes {
			for j, size := range row {
				list, code := impl.GreedyCode(base, int64(i+1), int64(j+1))
				if len(list) != size || (size == 0) != (code == impl.ErrBudget) {
					t.Errorf("GreedyCode of %d, %d and %d has %d words, %d, want %d", base, i+1, j+1, len(list), code, size)
				}
			}
		}
	}
}

func TestGreedyCodesAreApartAndFull(t *testing.T) {
	for _, c := range greedyCases() {
		list := taken(t, c)
		least := int64(c.length) + 1
		for i, w := range list {
			for _, other := range list[:i] {
				least = min(least, differing(w, other))
			}
		}
		if least < int64(c.apart) {
			t.Errorf("%s: two words differ in %d", c, least)
		}
		told, code := impl.LeastApartOf(c.base, list)
		wantNumber(t, c.String()+": LeastApartOf", told, code, least)
		for _, w := range wordsInOrder(c.base, c.length) {
			isNear := func(other impl.Word) bool { return differing(w, other) < int64(c.apart) }
			if !slices.ContainsFunc(list, isNear) {
				t.Errorf("%s: the word %v could be added", c, w)
			}
		}
	}
}

func TestGreedyCodesAreClosed(t *testing.T) {
	for _, c := range greedyCases() {
		list := taken(t, c)
		for _, w := range list {
			for _, other := range list {
				if !hasWord(list, added(w, 1, other)) {
					t.Errorf("%s has not the sum of %v and %v", c, w, other)
				}
			}
			for a := range c.base {
				if !hasWord(list, added(zeroWord(c.length), impl.Nimber(a), w)) {
					t.Errorf("%s has not the product of %d and %v", c, a, w)
				}
			}
		}
		sums, one := impl.ClosedUnderSums(c.base, list)
		products, two := impl.ClosedUnderProducts(c.base, list)
		wantNumber(t, c.String()+" is closed", [2]bool{sums, products}, one+two, [2]bool{true, true})
	}
}

func TestGreedyBases(t *testing.T) {
	for _, c := range greedyCases() {
		basis, code := impl.GreedyBasis(c.base, int64(c.length), int64(c.apart))
		wantWords(t, "GreedyBasis of "+c.String(), basis, code, basisByAdding(c))
		size := int64(1)
		for range basis {
			size *= c.base
		}
		if size != int64(len(c.words)) {
			t.Errorf("%s has %d words, and a basis of %d", c, len(c.words), len(basis))
		}
		span, code := impl.SpannedBy(c.base, basis)
		wantWords(t, "SpannedBy the basis of "+c.String(), span, code, c.words)
		slices.Reverse(basis)
		span, code = impl.SpannedBy(c.base, basis)
		wantWords(t, "SpannedBy the basis of "+c.String()+", from its end", span, code, c.words)
		whole, code := impl.SpannedBy(c.base, c.words)
		wantWords(t, "SpannedBy all words of "+c.String(), whole, code, c.words)
	}
}

func TestGreedyByHand(t *testing.T) {
	weights := func(base, length, apart int64) [8]int64 {
		list, _ := impl.GreedyCode(base, length, apart)
		counts, _ := impl.WeightsIn(base, list)
		return counts
	}
	// The codes of seven bits that repair one of them, and of six nimbers that repair one and find a second one, are known by their weights.
	wantNumber(t, "the weights of 2, 7 and 3", weights(2, 7, 3), impl.OK, [8]int64{1, 0, 0, 7, 7, 0, 0, 1})
	wantNumber(t, "the weights of 2, 7 and 4", weights(2, 7, 4), impl.OK, [8]int64{1, 0, 0, 0, 7})
	wantNumber(t, "the weights of 4, 6 and 4", weights(4, 6, 4), impl.OK, [8]int64{1, 0, 0, 0, 45, 0, 18})
	basis, code := impl.GreedyBasis(2, 7, 3)
	wantWords(t, "GreedyBasis of 2, 7 and 3", basis, code, wordsWith(t, "*0 *0 *0 *0 *1 *1 *1", "*0 *0 *1 *1 *0 *0 *1", "*0 *1 *0 *1 *0 *1 *0", "*1 *0 *0 *1 *0 *1 *1"))
	basis, code = impl.GreedyBasis(4, 3, 2)
	wantWords(t, "GreedyBasis of 4, 3 and 2", basis, code, wordsWith(t, "*0 *1 *1", "*1 *0 *1"))
	basis, code = impl.GreedyBasis(256, 1, 1)
	wantWords(t, "GreedyBasis of 256, 1 and 1", basis, code, wordsWith(t, "*1"))
}

// Of two errors the first one is told: ErrRange, then ErrLimit, then ErrBudget.
func TestGreedyErrors(t *testing.T) {
	for _, base := range wordBases() {
		for _, length := range []int64{math.MinInt64, -1, 0, 1, 2, 3, 4, 5, 6, 7, 8, 9, 64, math.MaxInt64} {
			for _, apart := range []int64{math.MinInt64, -1, 0, 1, 2, 3, 4, 5, 6, 7, 8, 9, math.MaxInt64} {
				want := int64(impl.OK)
				switch {
				case length < 1 || length > 7 || apart < 1 || apart > length:
					want = impl.ErrRange
				case wordCount(base, int(length)) > 5000:
					want = impl.ErrLimit
				default:
					continue // TestGreedyCodes has all of these
				}
				about := fmt.Sprint(base, length, apart)
				list, code := impl.GreedyCode(base, length, apart)
				call("GreedyCode", list, code).wantCode(t, about, want)
				basis, code := impl.GreedyBasis(base, length, apart)
				call("GreedyBasis", basis, code).wantCode(t, about, want)
			}
		}
	}
}

func TestSpans(t *testing.T) {
	reached, over := 0, 0
	for _, base := range wordBases() {
		for _, list := range someLists(base) {
			about := shortList(base, list)
			span, code := impl.SpannedBy(base, list)
			if len(list) == 0 {
				wantWords(t, "SpannedBy "+about, span, code, nil)
				continue
			}
			want := spanByAdding(base, lengthOf(list), list)
			if want == nil {
				call("SpannedBy", span, code).wantCode(t, about, impl.ErrBudget)
				over++
				continue
			}
			wantWords(t, "SpannedBy "+about, span, code, want)
			if len(span) == 256 {
				reached++
			}
		}
	}
	if reached < 10 || over < 10 {
		t.Errorf("%d spans have as many words as they may have, and %d would have more: the test shows little", reached, over)
	}
}

func TestSpansByHand(t *testing.T) {
	span, code := impl.SpannedBy(4, wordsWith(t, "*0 *2 *1"))
	wantWords(t, "a span", span, code, wordsWith(t, "*0 *0 *0", "*0 *1 *3", "*0 *2 *1", "*0 *3 *2"))
	span, code = impl.SpannedBy(2, wordsWith(t, "*1 *1 *0", "*0 *0 *0", "*0 *1 *0", "*1 *0 *0", "*1 *1 *0"))
	wantWords(t, "a span of words that come from others", span, code, wordsWith(t, "*0 *0 *0", "*0 *1 *0", "*1 *0 *0", "*1 *1 *0"))
	span, code = impl.SpannedBy(256, wordsWith(t, "*0 *0", "*0 *0"))
	wantWords(t, "a span of zeros", span, code, wordsWith(t, "*0 *0"))
	for _, texts := range [][]string{{"*1 *0", "*0 *1"}, {"*7 *7", "*8 *8", "*255 *254"}} {
		span, code = impl.SpannedBy(256, wordsWith(t, texts...))
		call("SpannedBy", span, code).wantCode(t, fmt.Sprint(texts), impl.ErrBudget)
	}
}

func TestClosedLists(t *testing.T) {
	open, closed := 0, 0
	for _, base := range wordBases() {
		for _, list := range someLists(base) {
			about := shortList(base, list)
			known := map[string]bool{}
			for _, w := range list {
				known[impl.WordText(w)] = true
			}
			sums, products := true, true
			for _, w := range list {
				for _, other := range list {
					sums = sums && known[impl.WordText(added(w, 1, other))]
				}
				for a := range base {
					products = products && known[impl.WordText(added(zeroWord(len(w)), impl.Nimber(a), w))]
				}
			}
			got, code := impl.ClosedUnderSums(base, list)
			wantNumber(t, "ClosedUnderSums of "+about, got, code, sums)
			got, code = impl.ClosedUnderProducts(base, list)
			wantNumber(t, "ClosedUnderProducts of "+about, got, code, products)
			if sums && products {
				closed++
			} else {
				open++
			}
		}
	}
	if open < 20 || closed < 20 {
		t.Errorf("%d lists are open, and %d closed: the test shows little", open, closed)
	}
}

func TestClosedByHand(t *testing.T) {
	for _, c := range []struct {
		base           int64
		texts          []string
		sums, products bool
	}{
		{2, nil, true, true},
		{256, nil, true, true},
		{2, []string{"*0"}, true, true},
		{2, []string{"*1"}, false, false},
		{2, []string{"*0", "*1"}, true, true},
		{2, []string{"*1", "*0"}, true, true},
		{2, []string{"*0 *0", "*0 *1", "*1 *0"}, false, true},
		{4, []string{"*0 *0", "*1 *1"}, true, false},
		{4, []string{"*0", "*1", "*2"}, false, false},
		{4, []string{"*1", "*2", "*3"}, false, false},
		{4, []string{"*0 *0", "*0 *1", "*0 *2", "*0 *3", "*1 *0", "*2 *0", "*3 *0"}, false, true},
		{4, []string{"*0 *0", "*2 *2"}, true, false},
		{16, []string{"*0", "*1", "*2", "*3"}, true, false},
		{4, []string{"*3", "*0", "*1", "*2"}, true, true},
	} {
		list := wordsWith(t, c.texts...)
		sums, code := impl.ClosedUnderSums(c.base, list)
		wantNumber(t, fmt.Sprint("ClosedUnderSums of ", c.base, c.texts), sums, code, c.sums)
		products, code := impl.ClosedUnderProducts(c.base, list)
		wantNumber(t, fmt.Sprint("ClosedUnderProducts of ", c.base, c.texts), products, code, c.products)
	}
}

// All sums but one are there, wherever in the list that one would be.
func TestOneMissingWord(t *testing.T) {
	for _, c := range greedyCases() {
		for at := range c.words {
			if at%7 != 0 && at != len(c.words)-1 {
				continue
			}
			list := slices.Concat(c.words[:at], c.words[at+1:])
			sums, code := impl.ClosedUnderSums(c.base, list)
			wantNumber(t, fmt.Sprint(c, " without the word ", at, " under sums"), sums, code, staysClosed(c, at, false))
			products, code := impl.ClosedUnderProducts(c.base, list)
			wantNumber(t, fmt.Sprint(c, " without the word ", at, " under products"), products, code, staysClosed(c, at, true))
		}
	}
}

// staysClosed tells whether a code of two words or more is closed without one of them. The word of zeros is a sum, and a product,
// of each one; other words are sums if there are more than two, and products of others if the base has nimbers besides 0 and 1.
func staysClosed(c greedyCase, at int, products bool) bool {
	if at == 0 {
		return false
	}
	if products {
		return c.base == 2
	}
	return len(c.words) == 2
}

func TestLeastApart(t *testing.T) {
	for _, base := range wordBases() {
		for _, list := range someLists(base) {
			about := shortList(base, list)
			got, code := impl.LeastApartOf(base, list)
			if len(list) < 2 {
				call("LeastApartOf", got, code).wantCode(t, about, impl.ErrNotFound)
				continue
			}
			least := int64(8)
			for i := range list {
				for j := range i {
					least = min(least, differing(list[i], list[j]))
				}
			}
			wantNumber(t, "LeastApartOf "+about, got, code, least)
		}
	}
	for at := 1; at < 12; at++ { // the two nearest words are at any two places
		for before := range at {
			list := make([]impl.Word, 12)
			for i := range list {
				list[i] = slices.Repeat(impl.Word{impl.Nimber(i)}, 7)
			}
			list[at] = append(slices.Clone(list[before][:4]), list[at][4:]...)
			got, code := impl.LeastApartOf(16, list)
			wantNumber(t, fmt.Sprint("LeastApartOf with the words ", before, " and ", at, " being near"), got, code, 3)
		}
	}
}

// nearestByLooking is the first word with the fewest differences.
func nearestByLooking(list []impl.Word, w impl.Word) (int64, int64) {
	for count := range int64(len(w) + 1) {
		for i, other := range list {
			if differing(w, other) == count {
				return int64(i), count
			}
		}
	}
	return -1, -1
}

// searched are words that are in a list, near to it, and any ones.
func searched(d *dice, base int64, list []impl.Word) []impl.Word {
	length := lengthOf(list)
	found := []impl.Word{zeroWord(length), d.word(base, length), d.word(base, length)}
	for i := 0; i < len(list); i += 1 + len(list)/3 {
		near := slices.Clone(list[i])
		near[d.next(length)] ^= impl.Nimber(d.next(int(base)))
		far := slices.Clone(near)
		far[d.next(length)] ^= 1
		found = append(found, list[i], near, far)
	}
	return found
}

func TestNearestWords(t *testing.T) {
	d := dice(61)
	for _, base := range wordBases() {
		for _, list := range someLists(base) {
			for _, w := range searched(&d, base, list) {
				about := fmt.Sprint(shortList(base, list), " and ", w)
				index, apart, code := impl.NearestOf(base, list, w)
				if len(list) == 0 {
					call("the index of NearestOf", index, code).wantCode(t, about, impl.ErrNotFound)
					call("the count of NearestOf", apart, code).wantCode(t, about, impl.ErrNotFound)
					continue
				}
				wantIndex, wantApart := nearestByLooking(list, w)
				wantNumber(t, "NearestOf "+about, [2]int64{index, apart}, code, [2]int64{wantIndex, wantApart})
			}
		}
	}
}

func TestNearestByHand(t *testing.T) {
	list := wordsWith(t, "*3 *3 *3", "*1 *2 *3", "*1 *1 *1", "*0 *2 *3", "*1 *2 *3")
	for text, want := range map[string][2]int64{
		"*3 *3 *3": {0, 0}, "*1 *2 *3": {1, 0}, "*0 *2 *3": {3, 0}, "*2 *2 *3": {1, 1}, "*1 *1 *3": {1, 1}, "*3 *2 *1": {0, 2}, "*2 *2 *2": {1, 2}, "*0 *0 *0": {3, 2}, "*2 *0 *0": {0, 3}, "*3 *3 *0": {0, 1},
	} {
		index, apart, code := impl.NearestOf(4, list, wordOf(t, text))
		wantNumber(t, "NearestOf "+text, [2]int64{index, apart}, code, want)
	}
}

func TestRepairedWords(t *testing.T) {
	d := dice(62)
	for _, base := range wordBases() {
		for _, list := range someLists(base) {
			for _, w := range searched(&d, base, list) {
				for wrong := range int64(8) {
					checkRepair(t, base, list, w, wrong)
				}
			}
		}
	}
}

// checkRepair looks at all words of a list, and returns the code.
func checkRepair(t *testing.T, base int64, list []impl.Word, w impl.Word, wrong int64) int64 {
	t.Helper()
	about := fmt.Sprint(shortList(base, list), " and ", w, " with ", wrong, " wrong")
	got, code := impl.RepairWith(base, list, w, wrong)
	var near []impl.Word
	for _, other := range list {
		if differing(w, other) <= wrong {
			near = append(near, other)
		}
	}
	switch len(near) {
	case 0:
		call("RepairWith", got, code).wantCode(t, about, impl.ErrNotFound)
	case 1:
		wantList(t, "RepairWith "+about, got, code, near[0])
	default:
		call("RepairWith", got, code).wantCode(t, about, impl.ErrProof)
	}
	return code
}

func TestRepairedByHand(t *testing.T) {
	list := wordsWith(t, "*0 *0 *0 *0", "*1 *1 *1 *1", "*2 *2 *2 *2", "*2 *2 *2 *2")
	for _, c := range []struct {
		text  string
		wrong int64
		want  int64
	}{
		{"*0 *0 *0 *0", 0, impl.OK}, {"*0 *0 *0 *0", 3, impl.OK}, {"*0 *0 *0 *0", 4, impl.ErrProof}, {"*0 *0 *0 *0", 7, impl.ErrProof},
		{"*0 *0 *0 *1", 0, impl.ErrNotFound}, {"*0 *0 *0 *1", 1, impl.OK}, {"*0 *0 *0 *1", 2, impl.OK}, {"*0 *0 *0 *1", 3, impl.ErrProof},
		{"*0 *0 *1 *1", 1, impl.ErrNotFound}, {"*0 *0 *1 *1", 2, impl.ErrProof}, {"*2 *2 *2 *2", 0, impl.ErrProof}, {"*3 *3 *3 *3", 3, impl.ErrNotFound},
	} {
		if code := checkRepair(t, 4, list, wordOf(t, c.text), c.wrong); code != c.want {
			t.Errorf("RepairWith %s and %d wrong has the code %d, want %d", c.text, c.wrong, code, c.want)
		}
	}
	got, code := impl.RepairWith(4, list, impl.Word{0, 0, 0, 1}, 1)
	wantList(t, "RepairWith", got, code, impl.Word{0, 0, 0, 0})
}

// Words of a greedy code are repaired by it as long as fewer than half of apart nimbers are wrong.
func TestGreedyCodesRepair(t *testing.T) {
	d := dice(63)
	for _, c := range greedyCases() {
		wrong := (c.apart - 1) / 2
		for i := 0; i < len(c.words); i += 1 + len(c.words)/30 {
			bad := slices.Clone(c.words[i])
			for range wrong {
				bad[d.next(c.length)] = impl.Nimber(d.next(int(c.base)))
			}
			got, code := impl.RepairWith(c.base, c.words, bad, int64(wrong))
			wantList(t, fmt.Sprint("RepairWith ", c, " of ", bad), got, code, c.words[i])
			index, apart, code := impl.NearestOf(c.base, c.words, bad)
			wantNumber(t, fmt.Sprint("NearestOf ", c, " and ", bad), [2]int64{index, apart}, code, [2]int64{int64(i), differing(bad, c.words[i])})
		}
	}
}

func TestWeightsInLists(t *testing.T) {
	for _, base := range wordBases() {
		for _, list := range someLists(base) {
			var want [8]int64
			for _, w := range list {
				want[differing(w, zeroWord(len(w)))]++
			}
			got, code := impl.WeightsIn(base, list)
			wantNumber(t, "WeightsIn "+shortList(base, list), got, code, want)
		}
	}
	got, code := impl.WeightsIn(4, wordsWith(t, "*0 *0 *0 *0 *0 *0 *0", "*1 *2 *3 *1 *2 *3 *1", "*0 *0 *0 *0 *0 *0 *3", "*0 *0 *0 *0 *0 *0 *3", "*1 *0 *0 *2 *0 *0 *3"))
	wantNumber(t, "WeightsIn", got, code, [8]int64{1, 2, 0, 1, 0, 0, 0, 1})
}
