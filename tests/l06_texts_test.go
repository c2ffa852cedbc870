package tests

import (
	"slices"
	"strconv"
	"strings"
	"testing"

	"loop.example/g01307/impl"
)

// The texts of words, which promise 15 needs, too.

// checkWordText checks that a word and its text tell each other.
func checkWordText(t *testing.T, w impl.Word, text string) {
	t.Helper()
	shown := text[:min(len(text), 60)]
	if got := impl.WordText(w); got != text {
		t.Errorf("WordText of %v = %q, want %q", w[:min(len(w), 20)], got[:min(len(got), 60)], shown)
	}
	back, code := impl.ReadWord(text)
	if code != impl.OK || !slices.Equal(back, w) {
		t.Errorf("ReadWord(%q) = %d nimbers, %d", shown, len(back), code)
	}
}

func TestTextsOfWords(t *testing.T) {
	for length := range 8 {
		for _, w := range sampleWords(length) {
			var parts []string
			for _, a := range w {
				parts = append(parts, "*"+strconv.Itoa(int(a)))
			}
			checkWordText(t, w, strings.Join(parts, " "))
		}
	}
	checkWordText(t, nil, "")
	checkWordText(t, impl.Word{}, "")
	checkWordText(t, impl.Word{0}, "*0")
	checkWordText(t, impl.Word{5, 7}, "*5 *7")
	checkWordText(t, impl.Word{0, 65535, 0}, "*0 *65535 *0")
	// Words may be longer than they can be with a base.
	for _, length := range []int{8, 9, 300, 333_333} {
		checkWordText(t, slices.Repeat(impl.Word{1}, length), strings.TrimSuffix(strings.Repeat("*1 ", length), " "))
	}
}

func TestTextsOfNoWord(t *testing.T) {
	bad := []string{" ", "  ", "0", "x", "[]", "nil", "\n", "\x00", " *1", "*1 ", "*1  *1", "*1,*1", "*1, *1", "*1\t*1", "*1\n*1", "*1;*1", "*1 1", "1 *1", "*1*1", "*1 *01", "*1 *65536", "*1 *-1", "*5 *7 ", "*5 *7\n", "*5 7", "5 7"}
	for _, text := range badNims() {
		bad = append(bad, text, "*5 "+text, text+" *5")
	}
	for _, part := range []string{" ", "*", "1", "*1", "*1 ", "\x00", "\xff"} {
		bad = append(bad, strings.Repeat(part, 1_000_000/len(part)))
	}
	for _, text := range bad {
		w, code := impl.ReadWord(text)
		call("ReadWord", w, code).wantCode(t, strconv.Quote(text[:min(len(text), 40)]), impl.ErrSyntax)
	}
}
