package tests

import (
	"fmt"
	"maps"
	"math"
	"slices"
	"testing"

	"loop.example/g01307/impl"
)

// Promise 1 for the functions of chapter 6: they return for all arguments, modify none, depend on nothing else, and return zero values with errors.

// oneWordCalls calls all functions of one word and a base.
func oneWordCalls(base int64, w impl.Word) []called {
	place, one := impl.PlaceOfWord(base, w)
	checked, two := impl.WithCheckSums(base, w)
	repaired, index, three := impl.RepairBySums(base, w)
	return []called{
		call("PlaceOfWord", place, one), call("WithCheckSums", checked, two), call("the word of RepairBySums", repaired, three), call("the index of RepairBySums", index, three),
	}
}

// wordListCalls calls all functions of a list of words alone.
func wordListCalls(base int64, list []impl.Word) []called {
	span, one := impl.SpannedBy(base, list)
	sums, two := impl.ClosedUnderSums(base, list)
	products, three := impl.ClosedUnderProducts(base, list)
	apart, four := impl.LeastApartOf(base, list)
	weights, five := impl.WeightsIn(base, list)
	return []called{
		call("SpannedBy", span, one), call("ClosedUnderSums", sums, two), call("ClosedUnderProducts", products, three), call("LeastApartOf", apart, four), call("WeightsIn", weights, five),
	}
}

// nearCalls calls all functions of a list of words and another word.
func nearCalls(base int64, list []impl.Word, w impl.Word, wrong int64) []called {
	index, apart, one := impl.NearestOf(base, list, w)
	repaired, two := impl.RepairWith(base, list, w, wrong)
	return []called{call("the index of NearestOf", index, one), call("the count of NearestOf", apart, one), call("RepairWith", repaired, two)}
}

// greedyCalls calls all functions of a base and a length.
func greedyCalls(base, length, number int64) []called {
	w, one := impl.WordAtPlace(base, length, number)
	list, two := impl.GreedyCode(base, length, number)
	basis, three := impl.GreedyBasis(base, length, number)
	return []called{call("WordAtPlace", w, one), call("GreedyCode", list, two), call("GreedyBasis", basis, three)}
}

// invalidLists have a word that is not valid, or one that is of another length, at the beginning, between, or at the end.
func invalidLists(base int64) [][]impl.Word {
	var lists [][]impl.Word
	for _, w := range append(invalidWords(base), impl.Word{1, 0}, impl.Word{1, 0, 0, 0}, impl.Word{1}) {
		lists = append(lists, []impl.Word{{1, 0, 1}, w}, []impl.Word{w, {1, 0, 1}}, []impl.Word{{0, 0, 0}, w, {0, 0, 0}})
	}
	for _, w := range invalidWords(base) {
		lists = append(lists, []impl.Word{w}, []impl.Word{w, w})
	}
	many := slices.Repeat([]impl.Word{{1, 0, 1}}, 300)
	for _, w := range []impl.Word{nil, {1, 0}, {1, 0, 0, 0}, {0, 0, impl.Nimber(base)}} {
		lists = append(lists, append(slices.Clone(many[:299]), w), append(slices.Clone(many), w), append([]impl.Word{w}, many...))
	}
	return append(lists, make([]impl.Word, 1_000_000))
}

// With no base, nothing else is looked at.
func TestNoBase(t *testing.T) {
	tooMany := slices.Repeat([]impl.Word{{1}}, 301)
	for _, base := range badBases() {
		about := fmt.Sprint("the base ", base)
		var list []called
		for _, w := range []impl.Word{nil, {0}, {1}, {1, 2, 3}, {65535}, zeroWord(7), zeroWord(8)} {
			list = append(list, oneWordCalls(base, w)...)
			for _, words := range [][]impl.Word{nil, {w}, {w, w}, {{1}, w}, {nil}, tooMany} {
				list = append(list, wordListCalls(base, words)...)
				list = append(list, nearCalls(base, words, w, 1)...)
				list = append(list, nearCalls(base, words, w, -1)...)
			}
		}
		for _, length := range []int64{math.MinInt64, -1, 0, 1, 3, 7, 8, math.MaxInt64} {
			for _, number := range []int64{math.MinInt64, -1, 0, 1, 3, 8, math.MaxInt64} {
				list = append(list, greedyCalls(base, length, number)...)
			}
		}
		for _, c := range list {
			c.wantCode(t, about, impl.ErrRange)
		}
	}
}

// With the bases 2 and 4 there are no check sums, and no word is looked at for them.
func TestBasesWithoutCheckSums(t *testing.T) {
	for _, base := range []int64{2, 4} {
		for _, w := range append(invalidWords(base), impl.Word{0}, impl.Word{1, 0, 1}, zeroWord(6), zeroWord(7)) {
			for _, c := range oneWordCalls(base, w)[1:] {
				c.wantCode(t, shortWord(base, w), impl.ErrRange)
			}
		}
	}
}

func TestInvalidWords(t *testing.T) {
	for _, base := range wordBases() {
		for _, w := range invalidWords(base) {
			list := oneWordCalls(base, w)
			if base < 16 {
				list = list[:1]
			}
			for _, words := range [][]impl.Word{nil, {{1}}, {{1, 0, 1}}, {w}, slices.Repeat([]impl.Word{{1}}, 301)} {
				for _, wrong := range []int64{math.MinInt64, -1, 0, 7, 8} {
					list = append(list, nearCalls(base, words, w, wrong)...)
				}
			}
			for _, c := range list {
				c.wantCode(t, shortWord(base, w), impl.ErrInvalid)
			}
		}
	}
}

// ErrInvalid comes before ErrLimit, a bad number of wrong nimbers, and too few words.
func TestInvalidLists(t *testing.T) {
	for _, base := range wordBases() {
		for _, words := range invalidLists(base) {
			list := wordListCalls(base, words)
			for _, wrong := range []int64{-1, 0, 7, 8} {
				list = append(list, nearCalls(base, words, impl.Word{1, 0, 1}, wrong)...)
			}
			for _, c := range list {
				c.wantCode(t, shortList(base, words), impl.ErrInvalid)
			}
		}
		for length := 1; length <= 7; length++ {
			for other := 1; other <= 7; other++ {
				if other == length {
					continue
				}
				for _, count := range []int{1, 2, 300, 301} {
					words := slices.Repeat([]impl.Word{zeroWord(length)}, count)
					for _, wrong := range []int64{-1, 0, 7, 8} {
						for _, c := range nearCalls(base, words, zeroWord(other), wrong) {
							c.wantCode(t, fmt.Sprint(shortList(base, words), " and a word of the length ", other), impl.ErrInvalid)
						}
					}
				}
			}
		}
	}
}

func TestTooManyWords(t *testing.T) {
	for _, base := range wordBases() {
		for _, count := range []int{301, 302, 556, 65836, 142_857} {
			for _, w := range []impl.Word{{1}, {0, 1, 0, 1, 0, 1, 0}} {
				words := slices.Repeat([]impl.Word{w}, count)
				list := wordListCalls(base, words)
				for _, wrong := range []int64{math.MinInt64, -1, 0, 7, 8, math.MaxInt64} {
					list = append(list, nearCalls(base, words, w, wrong)...)
				}
				for _, c := range list {
					c.wantCode(t, shortList(base, words), impl.ErrLimit)
				}
			}
		}
		// As many as there may be, with words that come several times.
		words := slices.Repeat([]impl.Word{{1, 0, 1}, {0, 0, 0}, {1, 0, 1}}, 100)
		about := shortList(base, words)
		wantCodes(t, about, wordListCalls(base, words), nil)
		wantCodes(t, about, nearCalls(base, words, impl.Word{1, 0, 1}, 0), map[string]int64{"RepairWith": impl.ErrProof})
		great := slices.Repeat([]impl.Word{{1}}, 1_000_000)
		for _, c := range append(wordListCalls(base, great), nearCalls(base, great, impl.Word{0}, -1)...) {
			c.wantCode(t, shortList(base, great), impl.ErrLimit)
		}
	}
}

func TestNumbersOfWrongNimbers(t *testing.T) {
	for _, base := range wordBases() {
		w := impl.Word{1, 0, 1}
		for _, words := range [][]impl.Word{nil, {w}, {w, w}, {{0, 1, 0}}, slices.Repeat([]impl.Word{w}, 300)} {
			for _, wrong := range []int64{math.MinInt64, -256, -1, 8, 9, 256, 1 << 32, math.MaxInt64} {
				got, code := impl.RepairWith(base, words, w, wrong)
				call("RepairWith", got, code).wantCode(t, fmt.Sprint(shortList(base, words), " with ", wrong, " wrong"), impl.ErrRange)
			}
			for wrong := range int64(8) {
				checkRepair(t, base, words, w, wrong)
			}
		}
	}
}

// Lists of no words have no length, so that any valid word fits.
func TestNoWords(t *testing.T) {
	for _, base := range wordBases() {
		for _, none := range [][]impl.Word{nil, {}, make([]impl.Word, 0, 8)} {
			span, code := impl.SpannedBy(base, none)
			wantWords(t, "SpannedBy no words", span, code, nil)
			sums, one := impl.ClosedUnderSums(base, none)
			products, two := impl.ClosedUnderProducts(base, none)
			wantNumber(t, "no words are closed", [2]bool{sums, products}, one+two, [2]bool{true, true})
			weights, code := impl.WeightsIn(base, none)
			wantNumber(t, "WeightsIn no words", weights, code, [8]int64{})
			apart, code := impl.LeastApartOf(base, none)
			call("LeastApartOf", apart, code).wantCode(t, "no words", impl.ErrNotFound)
			for length := 1; length <= 7; length++ {
				for _, c := range nearCalls(base, none, zeroWord(length), 7) {
					c.wantCode(t, "no words", impl.ErrNotFound)
				}
			}
		}
	}
}

// The empty word is a word, but with no base it is valid.
func TestEmptyWord(t *testing.T) {
	for _, empty := range []impl.Word{nil, {}, make(impl.Word, 0, 8)} {
		apart, code := impl.ApartOf(empty, nil)
		wantNumber(t, "ApartOf the empty word", apart, code, 0)
		sum, code := impl.PlusWord(empty, impl.Word{})
		wantList(t, "PlusWord of the empty word", sum, code, nil)
		product, code := impl.ScaleWord(7, empty)
		wantList(t, "ScaleWord of the empty word", product, code, nil)
		plain, placed, code := impl.CheckSum(empty)
		wantNumber(t, "CheckSum of the empty word", [2]impl.Nimber{plain, placed}, code, [2]impl.Nimber{})
		if impl.WeightOf(empty) != 0 || impl.WordText(empty) != "" || !impl.SameWord(empty, nil) || impl.SameWord(empty, impl.Word{0}) {
			t.Errorf("the empty word has the weight %d and the text %q", impl.WeightOf(empty), impl.WordText(empty))
		}
		for _, length := range []int{1, 7, 8} {
			for _, pair := range [][2]impl.Word{{empty, zeroWord(length)}, {zeroWord(length), empty}} {
				apart, code := impl.ApartOf(pair[0], pair[1])
				call("ApartOf", apart, code).wantCode(t, "the empty word", impl.ErrRange)
				sum, code := impl.PlusWord(pair[0], pair[1])
				call("PlusWord", sum, code).wantCode(t, "the empty word", impl.ErrRange)
			}
		}
	}
}

// wordResults is the text of what all functions return for words and a list.
func wordResults(base int64, a, b impl.Word, list []impl.Word) string {
	text := fmt.Sprint(oneWordCalls(base, a), oneWordCalls(base, b), wordListCalls(base, list), nearCalls(base, list, a, 2), nearCalls(base, list, b, 0), greedyCalls(base, int64(len(a)), int64(len(b))))
	apart, one := impl.ApartOf(a, b)
	sum, two := impl.PlusWord(a, b)
	product, three := impl.ScaleWord(7, a)
	plain, placed, four := impl.CheckSum(b)
	back, five := impl.ReadWord(impl.WordText(a))
	return text + fmt.Sprint(apart, one, sum, two, product, three, plain, placed, four, back, five, impl.ValidWord(base, a), impl.SameWord(a, b), impl.WeightOf(b), impl.WordText(b))
}

// mixedLists are some lists that are valid, and some that are not.
func mixedLists(base int64) [][]impl.Word {
	lists := [][]impl.Word{{nil}, {{1}, nil}, {{1, 0}, {1}}, {{65535}}, slices.Repeat([]impl.Word{{1}}, 301)}
	for i, list := range someLists(base) {
		if i%5 == 0 {
			lists = append(lists, list)
		}
	}
	return lists
}

// resultPairs are two words for a list: of its length, and others.
func resultPairs(base int64, list []impl.Word) [][2]impl.Word {
	d := dice(81)
	length := lengthOf(list)
	pairs := [][2]impl.Word{{nil, zeroWord(8)}, {d.word(base, length), d.word(base, length)}}
	if length > 0 {
		pairs = append(pairs, [2]impl.Word{zeroWord(length), d.word(65536, length)})
	}
	return pairs
}

func TestWordsAreNotModified(t *testing.T) {
	for _, base := range append(wordBases(), 3) {
		for _, list := range mixedLists(base) {
			for _, pair := range resultPairs(base, list) {
				first, second, whole := withRoom(pair[0], 6), withRoom(pair[1], 7), withRoom(copyWords(list), impl.Word{9, 9})
				for i, w := range whole {
					whole[i] = withRoom(w, 5)
				}
				shown := func() string {
					text := fmt.Sprint(first[:cap(first)], second[:cap(second)], whole[:cap(whole)])
					for _, w := range whole {
						text += fmt.Sprint(w[:cap(w)])
					}
					return text
				}
				before := shown()
				got := wordResults(base, first, second, whole)
				if shown() != before {
					t.Errorf("%s, %v and %v were modified", shortList(base, list), pair[0], pair[1])
				}
				if again := wordResults(base, first, second, whole); again != got {
					t.Errorf("%s, %v and %v have other results the second time", shortList(base, list), pair[0], pair[1])
				}
				if other := wordResults(base, slices.Clip(slices.Clone(pair[0])), slices.Clip(slices.Clone(pair[1])), slices.Clip(copyWords(list))); other != got {
					t.Errorf("%s, %v and %v have other results with unused capacity", shortList(base, list), pair[0], pair[1])
				}
			}
		}
	}
}

func TestNilAndEmptyWordsAreEquivalent(t *testing.T) {
	for _, base := range append(wordBases(), 0) {
		for _, w := range []impl.Word{nil, {1}, {1, 0, 1}, zeroWord(8)} {
			if a, b := wordResults(base, nil, w, nil), wordResults(base, impl.Word{}, w, []impl.Word{}); a != b {
				t.Errorf("nil: %s, empty: %s", a, b)
			}
			if a, b := wordResults(base, w, nil, []impl.Word{nil, w}), wordResults(base, w, impl.Word{}, []impl.Word{{}, w}); a != b {
				t.Errorf("nil: %s, empty: %s", a, b)
			}
		}
	}
}

func TestEqualWordsHaveEqualResultsAtOnce(t *testing.T) {
	wantSameAtOnce(t, func() string {
		text := ""
		for _, base := range append(wordBases(), 5) {
			for i, list := range mixedLists(base) {
				if i%3 == 0 {
					text += wordResults(base, zeroWord(lengthOf(list)), slices.Repeat(impl.Word{1}, lengthOf(list)), list)
				}
			}
		}
		return text
	})
}

// wordLists calls all functions that return words, and has their results.
func wordLists(base int64, a, b impl.Word, list []impl.Word) map[string][]impl.Word {
	sum, _ := impl.PlusWord(a, b)
	product, _ := impl.ScaleWord(1, a)
	at, _ := impl.WordAtPlace(base, int64(len(a)), 1)
	code, _ := impl.GreedyCode(base, int64(len(a)), int64(len(a)))
	basis, _ := impl.GreedyBasis(base, int64(len(a)), int64(len(a)))
	span, _ := impl.SpannedBy(base, list)
	repaired, _ := impl.RepairWith(base, list, a, 1)
	checked, _ := impl.WithCheckSums(base, a)
	right, _, _ := impl.RepairBySums(base, b)
	read, _ := impl.ReadWord(impl.WordText(a))
	return map[string][]impl.Word{
		"PlusWord": {sum}, "ScaleWord": {product}, "WordAtPlace": {at}, "GreedyCode": code, "GreedyBasis": basis, "SpannedBy": span,
		"RepairWith": {repaired}, "WithCheckSums": {checked}, "RepairBySums": {right}, "ReadWord": {read},
	}
}

// Each word that is returned, and each list, is overwritten, with all its capacity, and then looked for in all arguments and in all
// other words.
func TestReturnedWordsAreNew(t *testing.T) {
	for _, base := range wordBases() {
		for _, pair := range [][2]impl.Word{{{1}, {0}}, {{1}, {1}}, {{1, 0}, {0, 1}}, {{1, 0, 1}, {0, 1, 0}}, {{1, 1, 1, 1, 1, 1, 1}, {0, 0, 0, 0, 0, 0, 1}}} {
			a, b := withRoom(pair[0], 6), withRoom(pair[1], 7)
			list := withRoom([]impl.Word{withRoom(pair[0], 5)}, impl.Word{9})
			lists := wordLists(base, a, b, list)
			names := slices.Sorted(maps.Keys(lists))
			shown := func(without string, index int) string {
				text := fmt.Sprint(a[:cap(a)], b[:cap(b)], list[:cap(list)], list[0][:cap(list[0])])
				for _, name := range names {
					for i, w := range lists[name] {
						if name != without || index >= 0 && i != index {
							text += fmt.Sprint(w)
						}
					}
				}
				return text
			}
			for _, name := range names {
				for i, w := range lists[name] {
					before := shown(name, i)
					spoil(w)
					if shown(name, i) != before {
						t.Errorf("a change of the word %d of %s of %v changed something else", i, name, pair)
					}
					spoil(w) // back to what it was
				}
			}
			for _, name := range names {
				before := shown(name, -1)
				clear(lists[name][:cap(lists[name])])
				if shown(name, -1) != before {
					t.Errorf("a change of the list of %s of %v changed something else", name, pair)
				}
			}
			again := wordLists(base, a, b, list)
			for name, want := range wordLists(base, slices.Clone(pair[0]), slices.Clone(pair[1]), []impl.Word{slices.Clone(pair[0])}) {
				wantWords(t, fmt.Sprint(name, " of ", pair, " after a change of the first results"), again[name], impl.OK, want)
			}
		}
	}
}

func TestGreatWords(t *testing.T) {
	const length = 1_000_000
	w, other := slices.Repeat(impl.Word{1}, length), slices.Repeat(impl.Word{2}, length)
	for _, base := range wordBases() {
		for _, c := range append(wordListCalls(base, []impl.Word{w}), nearCalls(base, []impl.Word{{1}}, w, 1)...) {
			c.wantCode(t, "a great word", impl.ErrInvalid)
		}
		for _, c := range append(wordListCalls(base, []impl.Word{{1}, w[:length-1]}), nearCalls(base, []impl.Word{w}, w, 1)...) {
			c.wantCode(t, "a great word", impl.ErrInvalid)
		}
	}
	apart, code := impl.ApartOf(w, other)
	call("ApartOf", apart, code).wantCode(t, "great words", impl.ErrLimit)
	sum, code := impl.PlusWord(w, other[:length-1])
	call("PlusWord", sum, code).wantCode(t, "great words", impl.ErrRange)
	if !impl.SameWord(w, slices.Clone(w)) || impl.SameWord(w, other) || impl.SameWord(w, w[:length-1]) {
		t.Errorf("SameWord of great words is wrong")
	}
}
