package tests

import (
	"slices"
	"strconv"
	"strings"
	"testing"

	"loop.example/g01307/impl"
)

// The texts of games, of which promise 7 needs that they are read.

func TestTextsOfGames(t *testing.T) {
	for _, g := range games() {
		var places []string
		for _, moves := range g {
			var numbers []string
			for _, to := range moves {
				numbers = append(numbers, strconv.Itoa(int(to)))
			}
			if len(moves) == 0 {
				numbers = []string{"-"}
			}
			places = append(places, strings.Join(numbers, ","))
		}
		want := strings.Join(places, " ")
		if got := impl.GameText(g); got != want {
			t.Fatalf("GameText(%v) = %q", g, got)
		}
		back, code := impl.ReadGame(want)
		if code != impl.OK || !impl.SameGame(back, g) || !slices.EqualFunc(back, g, slices.Equal[[]int8]) {
			t.Fatalf("ReadGame(%q) = %v, %d", want, back, code)
		}
	}
}

func TestTextsOfGamesByHand(t *testing.T) {
	for text, want := range map[string]impl.Game{
		"-":                                  {nil},
		"- -":                                {nil, nil},
		"- 0":                                {nil, {0}},
		"- - 0,1":                            {nil, nil, {0, 1}},
		"- 0 0,1 1,2":                        {nil, {0}, {0, 1}, {1, 2}},
		"- - - - 1,3 0,4":                    {nil, nil, nil, nil, {1, 3}, {0, 4}},
		strings.Repeat("- ", 11) + "0,9,10":  append(make(impl.Game, 11), []int8{0, 9, 10}),
		strings.Repeat("- ", 59) + "9,10,58": append(make(impl.Game, 59), []int8{9, 10, 58}),
	} {
		if got, code := impl.ReadGame(text); code != impl.OK || !slices.EqualFunc(got, want, slices.Equal[[]int8]) {
			t.Errorf("ReadGame(%q) = %v, %d", text, got, code)
		}
		if got := impl.GameText(want); got != text {
			t.Errorf("GameText(%v) = %q, want %q", want, got, text)
		}
	}
}

// badGames are texts that are nearly those of games.
func badGames() []string {
	bad := []string{
		"", " ", "  ", ",", "--", "---", "-,-", "-,", ",-", "0", "1", "0,1", "a", "game", "\x00", "\xff", "\u2212", "\u2013", "_", "*",
		" -", "- ", "-  -", "-\n", "\n-", "-\t-", "-\n-", "-,0", "-0", "--1", "-1", "0 -", "- -0", "- --", "- 0-", "- 0,-", "- -,0",
		"- 1", "- 2", "- 0,1", "- 0,0", "- 0 0,0", "- 0 1,0", "- 0 1,1", "- 0 0,1,2", "- 0 2", "- 0 3", "- 0 0,2", "- 0 127", "- 0 128", "- 0 256", "- 0 257", "- 0 65536", "- 0 4294967296", "- 0 18446744073709551616", "- 0 99999999999999999999999",
		"- +0", "- 00", "- 01", "- 0 01", "- 0 0,01", "- 0 00,1", "- 0 +1", "- 0 -1", "- 0 0,-1", "- 0 0x1", "- 0 0_1", "- 0 1.0", "- 0 1e0", "- 0 \u0661", "- 0 \uff11", "- *0", "- 0 *1",
		"- 0,", "- ,0", "- 0 0,,1", "- 0 0,1,", "- 0 ,0,1", "- 0 0, 1", "- 0 0 ,1", "- 0 0;1", "- 0 0.1", "- 0 0/1", "- 0;0,1", "-;0", "-,0 0", "[- 0]", "- 0 0,1 ", " - 0 0,1", "- 0  0,1", "- 0\t0,1", "- 0\n0,1", "- 0 0,1\n", "- 0 0,1\x00", "- 0 \u00a00", "\ufeff-",
		strings.Repeat("- ", 60) + "-", strings.Repeat("- ", 60) + "0", strings.Repeat("- ", 60), strings.Repeat("- ", 59) + "59", strings.Repeat("- ", 59) + "0,58,59", strings.Repeat("- ", 59) + "10,9",
	}
	for _, text := range badNims() {
		if text == "0" || text == "1" { // behind a game, these are numbers of places
			continue
		}
		bad = append(bad, text, "- 0 "+text)
	}
	return bad
}

func TestTextsOfNoGame(t *testing.T) {
	for _, text := range badGames() {
		g, code := impl.ReadGame(text)
		call("ReadGame", g, code).wantCode(t, strconv.Quote(text), impl.ErrSyntax)
	}
}

func TestGreatTextsOfNoGame(t *testing.T) {
	const length = 1_000_000
	for _, part := range []string{" ", "-", ",", "0", "- ", "0,", "0 ", "-,", ", ", "- 0 ", "\xff", "1,2,3 "} {
		for _, text := range []string{strings.Repeat(part, length/len(part)), "- 0 " + strings.Repeat(part, length/len(part)), strings.Repeat(part, length/len(part)) + "-"} {
			g, code := impl.ReadGame(text)
			call("ReadGame", g, code).wantCode(t, strconv.Quote(part)+" many times", impl.ErrSyntax)
		}
	}
}
