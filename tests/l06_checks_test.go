package tests

import (
	"fmt"
	"slices"
	"testing"

	"loop.example/g01307/impl"
)

// Promise 15: a word with one wrong nimber is repaired by its check sums, and by the code of all.

func checkBases() []int64 { return []int64{16, 256} }

func TestCheckSums(t *testing.T) {
	for length := range 8 {
		for _, w := range sampleWords(length) {
			plain, placed, code := impl.CheckSum(w)
			wantNumber(t, fmt.Sprint("CheckSum of ", w), [2]impl.Nimber{plain, placed}, code, oracleSums(w))
		}
		for at := range length { // one nimber alone, which shows what it is multiplied with
			for _, a := range samples() {
				w := zeroWord(length)
				w[at] = a
				plain, placed, code := impl.CheckSum(w)
				wantNumber(t, fmt.Sprint("CheckSum of ", w), [2]impl.Nimber{plain, placed}, code, [2]impl.Nimber{a, theOracle().times(a, impl.Nimber(at+1))})
			}
		}
	}
	for _, c := range []struct {
		w    impl.Word
		want [2]impl.Nimber
	}{
		{nil, [2]impl.Nimber{0, 0}}, {impl.Word{0}, [2]impl.Nimber{0, 0}}, {impl.Word{9}, [2]impl.Nimber{9, 9}}, {impl.Word{1, 1}, [2]impl.Nimber{0, 3}},
		{impl.Word{0, 0, 0, 0, 0, 0, 1}, [2]impl.Nimber{1, 7}}, {impl.Word{1, 2, 3}, [2]impl.Nimber{0, 1 ^ 3 ^ 2}}, {impl.Word{1, 1, 1, 1, 1, 1, 1}, [2]impl.Nimber{1, 0}},
	} {
		plain, placed, code := impl.CheckSum(c.w)
		wantNumber(t, fmt.Sprint("CheckSum of ", c.w), [2]impl.Nimber{plain, placed}, code, c.want)
	}
}

// withSums is a word with check sums, which is checked by their definition.
func withSums(t *testing.T, base int64, w impl.Word) impl.Word {
	t.Helper()
	got, code := impl.WithCheckSums(base, w)
	if code != impl.OK || len(got) != len(w)+2 || !slices.Equal(got[:len(w)], w) || !impl.ValidWord(base, got) || oracleSums(got) != [2]impl.Nimber{} {
		t.Errorf("WithCheckSums of %d and %v = %v, %d", base, w, got, code)
	}
	return got
}

func TestWordsWithCheckSums(t *testing.T) {
	for _, base := range checkBases() {
		for length := 1; length <= 5; length++ {
			for _, w := range someWords(base, length) {
				checked := withSums(t, base, w)
				plain, placed, code := impl.CheckSum(checked)
				wantNumber(t, fmt.Sprint("CheckSum of ", checked), [2]impl.Nimber{plain, placed}, code, [2]impl.Nimber{})
			}
		}
		for length := 6; length <= 7; length++ {
			for _, w := range someWords(base, length) {
				got, code := impl.WithCheckSums(base, w)
				call("WithCheckSums", got, code).wantCode(t, fmt.Sprint(base, w), impl.ErrLimit)
			}
		}
	}
	got, code := impl.WithCheckSums(16, impl.Word{0, 0, 0, 0, 0})
	wantList(t, "WithCheckSums of zeros", got, code, zeroWord(7))
	got, code = impl.WithCheckSums(256, impl.Word{1})
	wantList(t, "WithCheckSums of 1", got, code, impl.Word{1, 2, 3}) // 1, 2 and 3 have the sum 0, and their squares 1, 3 and 2, too
}

// There is one ending alone with which both sums are 0.
func TestOneEndingHasCheckSums(t *testing.T) {
	for length := 1; length <= 5; length++ {
		d := dice(70 + length)
		for range 12 {
			w := d.word(16, length)
			var endings []impl.Word
			for _, ending := range wordsInOrder(16, 2) {
				if whole := slices.Concat(w, ending); oracleSums(whole) == [2]impl.Nimber{} {
					endings = append(endings, whole)
				}
			}
			if got, code := impl.WithCheckSums(16, w); code != impl.OK || len(endings) != 1 || !slices.Equal(got, endings[0]) {
				t.Errorf("WithCheckSums of 16 and %v = %v, %d, want the one of %v", w, got, code, endings)
			}
		}
	}
}

// checkedWords are words with check sums, of all lengths that there are.
func checkedWords(t *testing.T, base int64) []impl.Word {
	t.Helper()
	var list []impl.Word
	for length := 1; length <= 5; length++ {
		for i, w := range someWords(base, length) {
			if i%9 < 2 {
				list = append(list, withSums(t, base, w))
			}
		}
	}
	return list
}

// repairedAt is what RepairBySums has to return.
type repairedAt struct {
	text  string
	index int64
}

func wantRepaired(t *testing.T, base int64, w, want impl.Word, index int64) {
	t.Helper()
	got, at, code := impl.RepairBySums(base, w)
	wantNumber(t, fmt.Sprint("RepairBySums of ", base, w), repairedAt{impl.WordText(got), at}, code, repairedAt{impl.WordText(want), index})
}

func TestOneWrongNimberIsRepaired(t *testing.T) {
	for _, base := range checkBases() {
		for _, w := range checkedWords(t, base) {
			wantRepaired(t, base, w, w, -1)
			for at := range w {
				for wrong := impl.Nimber(1); int64(wrong) < base; wrong += impl.Nimber(base / 16) {
					bad := slices.Clone(w)
					bad[at] ^= wrong
					wantRepaired(t, base, bad, w, int64(at))
				}
			}
		}
	}
}

// repairsByLooking are all words whose check sums are 0, and that differ from w in one nimber or in none, with the indices.
func repairsByLooking(base int64, w impl.Word) []repairedAt {
	if oracleSums(w) == [2]impl.Nimber{} {
		return []repairedAt{{impl.WordText(w), -1}}
	}
	var found []repairedAt
	for at := range w {
		other := slices.Clone(w)
		for a := range base {
			if other[at] = impl.Nimber(a); oracleSums(other) == [2]impl.Nimber{} {
				found = append(found, repairedAt{impl.WordText(other), int64(at)})
			}
		}
	}
	return found
}

// checkRepairBySums looks at all words that could be meant, of which there is one at the most, and tells whether there is one.
func checkRepairBySums(t *testing.T, base int64, w impl.Word) bool {
	t.Helper()
	got, index, code := impl.RepairBySums(base, w)
	found := repairsByLooking(base, w)
	if len(found) == 0 {
		call("the word of RepairBySums", got, code).wantCode(t, fmt.Sprint(base, w), impl.ErrProof)
		call("the index of RepairBySums", index, code).wantCode(t, fmt.Sprint(base, w), impl.ErrProof)
		return false
	}
	if len(found) > 1 {
		t.Errorf("%v could be repaired to any one of %v", w, found)
	}
	wantNumber(t, fmt.Sprint("RepairBySums of ", base, w), repairedAt{impl.WordText(got), index}, code, found[0])
	return true
}

func TestAllShortWordsAreRepaired(t *testing.T) {
	repaired, none := 0, 0
	for length := 1; length <= 3; length++ {
		for i, w := range wordsInOrder(16, length) {
			if length == 3 && i%3 != 0 {
				continue
			}
			if checkRepairBySums(t, 16, w) {
				repaired++
			} else {
				none++
			}
		}
	}
	if repaired < 200 || none < 200 {
		t.Errorf("%d words are repaired, and %d are not: the test shows little", repaired, none)
	}
}

func TestTwoWrongNimbers(t *testing.T) {
	d := dice(71)
	repaired, none := 0, 0
	for _, base := range checkBases() {
		for _, w := range checkedWords(t, base) {
			for at := 1; at < len(w); at++ {
				bad := slices.Clone(w)
				before := d.next(at)
				bad[before] ^= impl.Nimber(1 + d.next(int(base)-1))
				bad[at] ^= impl.Nimber(1 + d.next(int(base)-1))
				if checkRepairBySums(t, base, bad) {
					repaired++
					got, _, _ := impl.RepairBySums(base, bad)
					if slices.Equal(got, w) {
						t.Errorf("%v, which has two wrong nimbers, is repaired to %v", bad, w)
					}
				} else {
					none++
				}
				bad[at] = w[at] ^ bad[before] ^ w[before] // both are wrong by the same nimber, so that the sum of all is 0
				if _, _, code := impl.RepairBySums(base, bad); code != impl.ErrProof {
					t.Errorf("RepairBySums of %d and %v has the code %d", base, bad, code)
				}
			}
		}
	}
	if repaired < 20 || none < 20 {
		t.Errorf("%d words with two wrong nimbers are repaired, and %d are not: the test shows little", repaired, none)
	}
}

func TestRepairedBySumsByHand(t *testing.T) {
	wantRepaired(t, 16, impl.Word{0}, impl.Word{0}, -1)
	wantRepaired(t, 16, impl.Word{9}, impl.Word{0}, 0)
	wantRepaired(t, 256, impl.Word{0, 0, 0, 0, 0, 0, 255}, zeroWord(7), 6)
	wantRepaired(t, 256, impl.Word{200, 0, 0}, zeroWord(3), 0)
	wantRepaired(t, 16, impl.Word{1, 2, 3}, impl.Word{1, 2, 3}, -1)
	wantRepaired(t, 16, impl.Word{1, 15, 3}, impl.Word{1, 2, 3}, 1)
	wantRepaired(t, 16, impl.Word{0, 2, 3}, impl.Word{1, 2, 3}, 0)
	for _, w := range []impl.Word{{1, 1}, {15, 15}, {3, 1}, {1, 1, 1, 1}, {0, 9, 9}} {
		if checkRepairBySums(t, 16, w) {
			t.Errorf("%v is repaired", w)
		}
	}
	// The sum of the products alone is 0, which tells of no nimber that is wrong.
	got, index, code := impl.RepairBySums(16, impl.Word{1, 1, 1, 1, 1, 1, 1})
	call("the word of RepairBySums", got, code).wantCode(t, "seven 1", impl.ErrProof)
	call("the index of RepairBySums", index, code).wantCode(t, "seven 1", impl.ErrProof)
}

// The words with check sums are a code of which two words differ in 3 nimbers at least, so that it repairs what the sums repair.
func TestCodesOfCheckSumsRepair(t *testing.T) {
	for _, c := range []struct {
		base   int64
		length int
	}{{16, 1}, {16, 2}, {256, 1}} {
		var list []impl.Word
		for _, w := range wordsInOrder(c.base, c.length) {
			list = append(list, withSums(t, c.base, w))
		}
		apart, code := impl.LeastApartOf(c.base, list)
		wantNumber(t, fmt.Sprint("LeastApartOf words with check sums of ", c), apart, code, 3)
		sums, one := impl.ClosedUnderSums(c.base, list)
		products, two := impl.ClosedUnderProducts(c.base, list)
		wantNumber(t, fmt.Sprint("words with check sums of ", c, " are closed"), [2]bool{sums, products}, one+two, [2]bool{true, true})
		for i := 0; i < len(list); i += 1 + len(list)/50 {
			for at := range list[i] {
				bad := slices.Clone(list[i])
				bad[at] ^= impl.Nimber(1 + i%int(c.base-1))
				got, code := impl.RepairWith(c.base, list, bad, 1)
				wantList(t, fmt.Sprint("RepairWith all words with check sums, and ", bad), got, code, list[i])
				wantRepaired(t, c.base, bad, list[i], int64(at))
				index, apart, code := impl.NearestOf(c.base, list, bad)
				wantNumber(t, fmt.Sprint("NearestOf ", bad), [2]int64{index, apart}, code, [2]int64{int64(i), 1})
			}
		}
	}
}
