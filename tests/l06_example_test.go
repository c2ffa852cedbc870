package tests

import (
	"testing"

	"loop.example/g01307/impl"
)

// wordsWith are the words with some texts, which have to be those of words.
func wordsWith(t *testing.T, texts ...string) []impl.Word {
	t.Helper()
	var list []impl.Word
	for _, text := range texts {
		list = append(list, wordOf(t, text))
	}
	return list
}

func TestCodesExample(t *testing.T) {
	even, code := impl.GreedyCode(2, 3, 2)
	wantWords(t, "GreedyCode of 2, 3 and 2", even, code, wordsWith(t, "*0 *0 *0", "*0 *1 *1", "*1 *0 *1", "*1 *1 *0"))
	basis, code := impl.GreedyBasis(2, 3, 2)
	wantWords(t, "GreedyBasis of 2, 3 and 2", basis, code, wordsWith(t, "*0 *1 *1", "*1 *0 *1"))
	same, code := impl.GreedyCode(4, 3, 3)
	wantWords(t, "GreedyCode of 4, 3 and 3", same, code, wordsWith(t, "*0 *0 *0", "*1 *1 *1", "*2 *2 *2", "*3 *3 *3"))
}

func TestCheckSumsExample(t *testing.T) {
	plain, placed, code := impl.CheckSum(impl.Word{5, 7})
	wantNumber(t, "CheckSum of 5 and 7", [2]impl.Nimber{plain, placed}, code, [2]impl.Nimber{2, 12})
	if impl.TimesNim(2, 7) != 9 || impl.PlusNim(5, 9) != 12 {
		t.Errorf("the product of 2 and 7 is %d, and the sum of 5 and 9 %d", impl.TimesNim(2, 7), impl.PlusNim(5, 9))
	}
	place, code := impl.PlaceOfWord(4, impl.Word{1, 2})
	wantNumber(t, "PlaceOfWord of 1 and 2", place, code, 6)
}

func TestCodesConstants(t *testing.T) {
	if impl.MaxWordLength != 7 || impl.MaxCodeWords != 300 || impl.MaxAll != 5000 {
		t.Errorf("MaxWordLength, MaxCodeWords and MaxAll are %d, %d and %d", impl.MaxWordLength, impl.MaxCodeWords, impl.MaxAll)
	}
}
