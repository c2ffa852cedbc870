package tests

import (
	"fmt"
	"math"
	"slices"
	"sync"
	"testing"

	"loop.example/g01307/impl"
)

// The oracle of codes crosses out all words that are too near to one that has been taken, and finds spans by adding products of
// single words until nothing new comes.

func wordBases() []int64 { return []int64{2, 4, 16, 256} }

// badBases are near to bases, in the one way or the other.
func badBases() []int64 {
	return []int64{math.MinInt64, -65536, -256, -16, -4, -2, -1, 0, 1, 3, 5, 6, 8, 15, 17, 32, 64, 128, 255, 257, 258, 260, 272, 512, 65535, 65536, 65538, 1<<32 + 2, 1<<32 + 16, 1<<32 + 256, math.MaxInt64}
}

// wordCount is how many words of a length there are.
func wordCount(base int64, length int) int64 {
	return int64(math.Pow(float64(base), float64(length)))
}

// wordsInOrder are all words of a length: behind each beginning come all nimbers, in their order.
func wordsInOrder(base int64, length int) []impl.Word {
	list := []impl.Word{{}}
	for range length {
		var longer []impl.Word
		for _, w := range list {
			for a := range base {
				longer = append(longer, append(slices.Clone(w), impl.Nimber(a)))
			}
		}
		list = longer
	}
	return list
}

func zeroWord(length int) impl.Word { return make(impl.Word, length) }

func (d *dice) word(base int64, length int) impl.Word {
	w := zeroWord(length)
	for i := range w {
		w[i] = impl.Nimber(d.next(int(base)))
	}
	return w
}

// someWords are all words of a length if they are few, and otherwise the first and the last ones, and some between.
func someWords(base int64, length int) []impl.Word {
	if wordCount(base, length) <= 256 {
		return wordsInOrder(base, length)
	}
	d := dice(base*10 + int64(length))
	least, greatest := zeroWord(length), slices.Repeat(impl.Word{impl.Nimber(base - 1)}, length)
	list := []impl.Word{zeroWord(length), slices.Clone(greatest)}
	for i := range length {
		least[i], greatest[i] = impl.Nimber(base-1), 0
		list = append(list, slices.Clone(least), slices.Clone(greatest))
		least[i], greatest[i] = 0, impl.Nimber(base-1)
	}
	for range 60 {
		list = append(list, d.word(base, length))
	}
	return list
}

// differing counts where two words of one length are not the same.
func differing(a, b impl.Word) int64 {
	count := int64(len(a))
	for i := range a {
		if a[i] == b[i] {
			count--
		}
	}
	return count
}

// added is the sum of w and the product of a and v.
func added(w impl.Word, a impl.Nimber, v impl.Word) impl.Word {
	o := theOracle()
	sum := slices.Clone(w)
	for i := range sum {
		sum[i] ^= o.times(a, v[i])
	}
	return sum
}

// oracleSums are both check sums.
func oracleSums(w impl.Word) [2]impl.Nimber {
	o := theOracle()
	var sums [2]impl.Nimber
	for i, a := range w {
		sums[0] ^= a
		sums[1] ^= o.times(impl.Nimber(1+i), a)
	}
	return sums
}

func hasWord(list []impl.Word, w impl.Word) bool {
	return slices.ContainsFunc(list, func(other impl.Word) bool { return slices.Equal(other, w) })
}

// spanByAdding returns all sums of products of words, in order, or nothing if there are more than MaxCodeWords.
func spanByAdding(base int64, length int, list []impl.Word) []impl.Word {
	var adding []impl.Word
	found := []impl.Word{zeroWord(length)}
	for _, v := range list {
		if hasWord(found, v) { // what it adds to others is there already
			continue
		}
		adding = append(adding, v)
		found = closedByAdding(base, found, adding)
		if len(found) > 300 {
			return nil
		}
	}
	slices.SortFunc(found, slices.Compare)
	return found
}

// closedByAdding adds products to all words, also to those that come so, until nothing new comes, or there are too many.
func closedByAdding(base int64, found, adding []impl.Word) []impl.Word {
	seen := map[[7]impl.Nimber]bool{}
	isNew := func(w impl.Word) bool {
		var key [7]impl.Nimber
		copy(key[:], w)
		before := seen[key]
		seen[key] = true
		return !before
	}
	for _, w := range found {
		isNew(w)
	}
	for i := 0; i < len(found) && len(found) <= 300; i++ {
		for _, v := range adding {
			for a := range base {
				if w := added(found[i], impl.Nimber(a), v); isNew(w) {
					found = append(found, w)
				}
			}
		}
	}
	return found
}

// greedyCase is a code that is taken greedily.
type greedyCase struct {
	base   int64
	length int
	apart  int
	words  []impl.Word
}

func (c greedyCase) String() string {
	return fmt.Sprintf("the code with the base %d, the length %d and %d apart", c.base, c.length, c.apart)
}

func (c greedyCase) isTooGreat() bool { return len(c.words) > 300 }

// wordsByCrossing takes the first word that is not crossed out, and crosses out all that are too near to it.
func wordsByCrossing(base int64, length, apart int) []impl.Word {
	list := wordsInOrder(base, length)
	crossed := make([]bool, len(list))
	var taken []impl.Word
	for i, w := range list {
		if crossed[i] {
			continue
		}
		taken = append(taken, w)
		for j, other := range list[i:] {
			if differing(w, other) < int64(apart) {
				crossed[i+j] = true
			}
		}
	}
	return taken
}

// allGreedy are all codes of which there are not too many words to choose from, also those that get too great.
var allGreedy = sync.OnceValue(func() []greedyCase {
	var list []greedyCase
	for _, base := range wordBases() {
		for length := 1; length <= 7 && wordCount(base, length) <= 5000; length++ {
			for apart := 1; apart <= length; apart++ {
				list = append(list, greedyCase{base, length, apart, wordsByCrossing(base, length, apart)})
			}
		}
	}
	return list
})

// greedyCases are those codes that do not get too great.
func greedyCases() []greedyCase {
	return slices.DeleteFunc(slices.Clone(allGreedy()), greedyCase.isTooGreat)
}

// basisByAdding goes through the words of a code.
func basisByAdding(c greedyCase) []impl.Word {
	var basis []impl.Word
	span := spanByAdding(c.base, c.length, nil)
	for _, w := range c.words {
		if !hasWord(span, w) {
			basis = append(basis, w)
			span = spanByAdding(c.base, c.length, basis)
		}
	}
	return basis
}

// wordOf is the word with a text that has to be one.
func wordOf(t *testing.T, text string) impl.Word {
	t.Helper()
	w, code := impl.ReadWord(text)
	if code != impl.OK {
		t.Fatalf("ReadWord(%q) = %d", text, code)
	}
	return w
}

// wantWords checks a list of words that is known.
func wantWords(t *testing.T, name string, got []impl.Word, code int64, want []impl.Word) {
	t.Helper()
	if code != impl.OK || !slices.EqualFunc(got, want, slices.Equal[impl.Word]) {
		t.Errorf("%s = %v, %d, want %v", name, got, code, want)
	}
}

// wantNumber checks a number, or something else that is compared, that is known.
func wantNumber[E comparable](t *testing.T, name string, got E, code int64, want E) {
	t.Helper()
	if code != impl.OK || got != want {
		t.Errorf("%s = %v, %d, want %v", name, got, code, want)
	}
}

// copyWords copies a list and its words.
func copyWords(list []impl.Word) []impl.Word {
	copied := make([]impl.Word, len(list))
	for i, w := range list {
		copied[i] = slices.Clone(w)
	}
	return copied
}

// someLists are lists of valid words of one length: spans, what is left of spans or added to them, words that come several times,
// any words, and as many as there may be.
func someLists(base int64) [][]impl.Word {
	d := dice(base * 77)
	var lists [][]impl.Word
	for length := 1; length <= 7; length++ {
		zero, some, other := zeroWord(length), d.word(base, length), d.word(base, length)
		some[0], other[length-1] = 1, impl.Nimber(base-1)
		lists = append(lists, nil, []impl.Word{zero}, []impl.Word{some}, []impl.Word{zero, zero}, []impl.Word{some, some}, []impl.Word{zero, some}, []impl.Word{other, zero, some, other})
		for _, basis := range [][]impl.Word{{some}, {some, other}} {
			span := spanByAdding(base, length, basis)
			if len(span) < 2 {
				continue
			}
			at := d.next(len(span))
			lists = append(lists, span, span[1:], span[:len(span)-1], slices.Concat(span[:at], span[at+1:]), append(slices.Clone(span), d.word(base, length)))
			back := copyWords(span)
			slices.Reverse(back)
			lists = append(lists, back, append(back, back[:min(len(back), 300-len(back))]...))
		}
		for _, count := range []int{2, 3, 9, 40, 300} {
			var list []impl.Word
			for range count {
				list = append(list, d.word(base, length))
			}
			lists = append(lists, list, slices.Repeat([]impl.Word{some}, count))
		}
	}
	return lists
}

// lengthOf is the length of the words of a list, and 3 if there are none.
func lengthOf(list []impl.Word) int {
	if len(list) == 0 {
		return 3
	}
	return len(list[0])
}

// shortList tells a list by its first words.
func shortList(base int64, list []impl.Word) string {
	first := list[:min(len(list), 5)]
	for _, w := range first {
		if len(w) > 10 {
			first = nil
		}
	}
	return fmt.Sprint("the base ", base, " and ", len(list), " words from ", first)
}
