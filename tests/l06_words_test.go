package tests

import (
	"fmt"
	"math"
	"slices"
	"testing"

	"loop.example/g01307/impl"
)

// Words alone, and their places, which promise 15 needs, too.

// invalidWords are no words of a base, but some of them are words.
func invalidWords(base int64) []impl.Word {
	list := []impl.Word{nil, {}, zeroWord(8), zeroWord(9), zeroWord(263), zeroWord(1_000_000), slices.Repeat(impl.Word{1}, 8), make(impl.Word, 0, 8)}
	for _, a := range []int{int(base), int(base) + 1, 300, 65535 - 65535%int(base), 65535} {
		list = append(list, impl.Word{impl.Nimber(a)})
		for length := 2; length <= 7; length++ {
			for _, at := range []int{0, length / 2, length - 1} {
				w := zeroWord(length)
				w[at] = impl.Nimber(a)
				list = append(list, w)
			}
		}
	}
	return list
}

func shortWord(base int64, w impl.Word) string {
	return fmt.Sprint("the base ", base, " and ", len(w), " nimbers from ", w[:min(len(w), 8)])
}

func TestValidWord(t *testing.T) {
	for _, base := range wordBases() {
		for length := 1; length <= 7; length++ {
			for _, w := range someWords(base, length) {
				if !impl.ValidWord(base, w) {
					t.Errorf("ValidWord of %d and %v is false", base, w)
				}
			}
		}
		for _, w := range invalidWords(base) {
			if impl.ValidWord(base, w) {
				t.Errorf("ValidWord of %s is true", shortWord(base, w))
			}
		}
	}
	for _, base := range badBases() {
		for _, w := range []impl.Word{nil, {}, {0}, {1}, {0, 0, 0}, {1, 0, 1, 0, 1, 0, 1}, {65535}, zeroWord(8)} {
			if impl.ValidWord(base, w) {
				t.Errorf("ValidWord of %d and %v is true", base, w)
			}
		}
	}
}

func TestSameWord(t *testing.T) {
	lists := []impl.Word{nil, {}, {0}, {0, 0}, {1}, {1, 0}, {0, 1}, {1, 2, 3}, {1, 2, 4}, {257}, zeroWord(8), zeroWord(1_000_000), append(zeroWord(999_999), 1)}
	for i, a := range lists {
		for j, b := range lists {
			same := i == j || i < 2 && j < 2 // the first two ones are both empty
			if got := impl.SameWord(a, slices.Clone(b)); got != same {
				t.Errorf("SameWord of the lists %d and %d is %v", i, j, got)
			}
		}
	}
}

func TestWeights(t *testing.T) {
	for _, c := range []struct {
		w    impl.Word
		want int64
	}{
		{nil, 0}, {impl.Word{}, 0}, {impl.Word{0}, 0}, {impl.Word{1}, 1}, {impl.Word{65535}, 1}, {impl.Word{0, 0, 0}, 0}, {impl.Word{0, 1, 2}, 2}, {impl.Word{256, 0, 512, 0}, 2},
		{impl.Word{1, 2, 3, 4, 5, 6, 7}, 7}, {impl.Word{1, 2, 3, 4, 5, 6, 7, 8}, 8}, {slices.Repeat(impl.Word{0, 4, 0, 9}, 250_000), 500_000}, {zeroWord(1_000_000), 0}, {slices.Repeat(impl.Word{1}, 1_000_000), 1_000_000},
	} {
		wantNumber(t, fmt.Sprint("WeightOf ", c.w[:min(len(c.w), 9)]), impl.WeightOf(c.w), impl.OK, c.want)
	}
}

// sampleWords are words of all lengths that a word may have without a base, with great nimbers, too.
func sampleWords(length int) []impl.Word {
	d := dice(90 + length)
	list := []impl.Word{zeroWord(length), slices.Repeat(impl.Word{65535}, length)}
	for _, bound := range []int64{2, 2, 3, 256, 65536} {
		list = append(list, d.word(bound, length), d.word(bound, length))
	}
	return list
}

func TestSumsAndDistancesOfWords(t *testing.T) {
	for length := range 8 {
		for _, a := range sampleWords(length) {
			for _, b := range sampleWords(length) {
				about := fmt.Sprint(a, " and ", b)
				apart, code := impl.ApartOf(a, b)
				wantNumber(t, "ApartOf "+about, apart, code, differing(a, b))
				sum, code := impl.PlusWord(a, b)
				wantList(t, "PlusWord of "+about, sum, code, added(a, 1, b))
				if weight := impl.WeightOf(sum); weight != apart {
					t.Errorf("the sum of %s has the weight %d, but they differ in %d", about, weight, apart)
				}
			}
		}
	}
}

func TestProductsOfWords(t *testing.T) {
	for length := range 8 {
		for _, w := range sampleWords(length) {
			for _, a := range samples() {
				product, code := impl.ScaleWord(a, w)
				wantList(t, fmt.Sprint("ScaleWord of ", a, w), product, code, added(zeroWord(length), a, w))
			}
		}
	}
}

func TestWordsByHand(t *testing.T) {
	sum, code := impl.PlusWord(impl.Word{1, 2, 300}, impl.Word{3, 2, 44})
	wantList(t, "a sum", sum, code, impl.Word{2, 0, 256})
	product, code := impl.ScaleWord(2, impl.Word{0, 1, 2, 3, 4, 16})
	wantList(t, "a product", product, code, impl.Word{0, 2, 3, 1, 8, 32})
	apart, code := impl.ApartOf(impl.Word{1, 2, 3}, impl.Word{3, 2, 1})
	wantNumber(t, "ApartOf", apart, code, 2)
	apart, code = impl.ApartOf(impl.Word{1, 257}, impl.Word{257, 1})
	wantNumber(t, "ApartOf nimbers with the same lower bits", apart, code, 2)
}

// Of two words that differ in length no limit is looked at.
func TestLengthsOfWords(t *testing.T) {
	lengths := []int{0, 1, 2, 6, 7, 8, 9, 263, 1_000_000}
	for _, some := range lengths {
		for _, other := range lengths {
			want := int64(impl.OK)
			switch {
			case some != other:
				want = impl.ErrRange
			case some > 7:
				want = impl.ErrLimit
			}
			a, b := slices.Repeat(impl.Word{1}, some), slices.Repeat(impl.Word{2}, other)
			about := fmt.Sprint(some, " and ", other, " nimbers")
			apart, code := impl.ApartOf(a, b)
			call("ApartOf", apart, code).wantCode(t, about, want)
			sum, code := impl.PlusWord(a, b)
			call("PlusWord", sum, code).wantCode(t, about, want)
		}
		want := int64(impl.OK)
		if some > 7 {
			want = impl.ErrLimit
		}
		product, code := impl.ScaleWord(3, slices.Repeat(impl.Word{1}, some))
		call("ScaleWord", product, code).wantCode(t, fmt.Sprint(some, " nimbers"), want)
		plain, placed, code := impl.CheckSum(slices.Repeat(impl.Word{1}, some))
		call("CheckSum", [2]impl.Nimber{plain, placed}, code).wantCode(t, fmt.Sprint(some, " nimbers"), want)
	}
}

// checkPlace checks that a word and its place tell each other.
func checkPlace(t *testing.T, base int64, w impl.Word, place int64) {
	t.Helper()
	got, code := impl.PlaceOfWord(base, w)
	wantNumber(t, fmt.Sprint("PlaceOfWord of ", base, w), got, code, place)
	back, code := impl.WordAtPlace(base, int64(len(w)), place)
	wantList(t, fmt.Sprint("WordAtPlace of ", base, len(w), place), back, code, w)
}

func TestPlacesInOrder(t *testing.T) {
	for _, base := range wordBases() {
		for length := 1; length <= 7 && wordCount(base, length) <= 66000; length++ {
			for place, w := range wordsInOrder(base, length) {
				checkPlace(t, base, w, int64(place))
			}
		}
	}
}

func TestPlacesOfLongerWords(t *testing.T) {
	for _, base := range wordBases() {
		for length := 1; length <= 7; length++ {
			list := someWords(base, length)
			slices.SortFunc(list, slices.Compare)
			before := int64(-1)
			for i, w := range list {
				place, code := impl.PlaceOfWord(base, w)
				if code != impl.OK || place < before || place == before && !slices.Equal(w, list[i-1]) {
					t.Errorf("PlaceOfWord of %d and %v = %d, %d, and that of a word before %d", base, w, place, code, before)
				}
				checkPlace(t, base, w, place)
				before = place
			}
			checkPlace(t, base, zeroWord(length), 0)
			checkPlace(t, base, append(zeroWord(length-1), 1), 1)
			checkPlace(t, base, slices.Repeat(impl.Word{impl.Nimber(base - 1)}, length), wordCount(base, length)-1)
		}
	}
}

func TestPlacesByHand(t *testing.T) {
	checkPlace(t, 2, impl.Word{1, 0, 0}, 4)
	checkPlace(t, 2, impl.Word{1, 1, 0, 1}, 13)
	checkPlace(t, 4, impl.Word{1, 2}, 6)
	checkPlace(t, 4, impl.Word{2, 1}, 9)
	checkPlace(t, 16, impl.Word{10, 0, 3}, 0xa03)
	checkPlace(t, 256, impl.Word{1, 2, 3, 4, 5, 6, 7}, 0x01020304050607)
	checkPlace(t, 256, impl.Word{255, 255, 255, 255, 255, 255, 255}, 0xffffffffffffff)
}

func TestNoPlaces(t *testing.T) {
	for _, base := range wordBases() {
		for length := int64(1); length <= 7; length++ {
			count := wordCount(base, int(length))
			for _, place := range []int64{math.MinInt64, -count, -1, count, count + 1, 2 * count, 1 << 56, 1<<56 + 1, 1 << 62, math.MaxInt64} {
				w, code := impl.WordAtPlace(base, length, place)
				call("WordAtPlace", w, code).wantCode(t, fmt.Sprint(base, length, place), impl.ErrRange)
			}
		}
		for _, length := range []int64{math.MinInt64, -7, -1, 0, 8, 9, 16, 63, 64, 256, 1<<32 + 1, math.MaxInt64} {
			for _, place := range []int64{math.MinInt64, -1, 0, 1, 5, math.MaxInt64} {
				w, code := impl.WordAtPlace(base, length, place)
				call("WordAtPlace", w, code).wantCode(t, fmt.Sprint(base, length, place), impl.ErrRange)
			}
		}
	}
}
