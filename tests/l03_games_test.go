package tests

import (
	"fmt"
	"slices"
	"testing"

	"loop.example/g01307/impl"
)

// Promises 7 and 8: a list of values is a proof, behind a winning move no move wins, and the value of a sum is the sum of the values.

func TestValuesAreThoseOfPlay(t *testing.T) {
	for _, g := range games() {
		want := valuesByPlay(g)
		if got, code := impl.ValuesOf(g); !slices.Equal(got, want) || code != impl.OK {
			t.Fatalf("ValuesOf(%v) = %v, %d, want %v", g, got, code, want)
		}
		for place := range g {
			if got, code := impl.ValueAt(g, int64(place)); got != want[place] || code != impl.OK {
				t.Fatalf("ValueAt(%v, %d) = %d, %d, want %d", g, place, got, code, want[place])
			}
		}
	}
}

func TestLongestPlay(t *testing.T) {
	for _, g := range games() {
		for place := range g {
			if got, code := impl.LongestPlay(g, int64(place)); got != longestByPlay(g, place) || code != impl.OK {
				t.Fatalf("LongestPlay(%v, %d) = %d, %d, want %d", g, place, got, code, longestByPlay(g, place))
			}
		}
	}
}

func TestLongestPlayByHand(t *testing.T) {
	g := gameOf(t, "- - 0 0,1 2 1,4 3 - 0,7")
	for place, want := range []int64{0, 0, 1, 1, 2, 3, 2, 0, 1} {
		if got, code := impl.LongestPlay(g, int64(place)); got != want || code != impl.OK {
			t.Errorf("LongestPlay of the place %d = %d, %d, want %d", place, got, code, want)
		}
	}
}

// wantBroken checks both functions that judge a list.
func wantBroken(t *testing.T, g impl.Game, list []impl.Nimber) {
	t.Helper()
	want, wantCode := int64(brokenAt(g, list)), int64(impl.OK)
	if want < 0 {
		want, wantCode = 0, impl.ErrNotFound
	}
	if at, code := impl.FirstBroken(g, list); at != want || code != wantCode {
		t.Fatalf("FirstBroken(%v, %v) = %d, %d, want %d, %d", g, list, at, code, want, wantCode)
	}
	if proof, code := impl.CheckValues(g, list); proof != (wantCode == impl.ErrNotFound) || code != impl.OK {
		t.Fatalf("CheckValues(%v, %v) = %v, %d", g, list, proof, code)
	}
}

// listsOf are all lists of so many numbers less than bound.
func listsOf(count, bound int) [][]impl.Nimber {
	if count == 0 {
		return [][]impl.Nimber{nil}
	}
	var all [][]impl.Nimber
	for _, list := range listsOf(count-1, bound) {
		for a := range bound {
			all = append(all, append(slices.Clone(list), impl.Nimber(a)))
		}
	}
	return all
}

func TestThereIsOneProofAlone(t *testing.T) {
	for places := 1; places <= 4; places++ {
		for _, g := range smallGames(places) {
			proofs := 0
			for length := range places + 2 {
				for _, list := range listsOf(length, places+1) {
					wantBroken(t, g, list)
					if proof, _ := impl.CheckValues(g, list); proof {
						proofs++
					}
				}
			}
			if proofs != 1 {
				t.Fatalf("%v has %d proofs", g, proofs)
			}
		}
	}
}

func TestChangedListsAreBroken(t *testing.T) {
	for _, g := range greatGames() {
		values, _ := impl.ValuesOf(g)
		wantBroken(t, g, values)
		for place := range values {
			for _, change := range []impl.Nimber{1, 3, 256, 65535} {
				list := slices.Clone(values)
				list[place] ^= change
				wantBroken(t, g, list)
				if at, code := impl.FirstBroken(g, list); at < int64(place) || code != impl.OK {
					t.Fatalf("FirstBroken(%v, %v) = %d, %d, but the place %d was changed", g, list, at, code, place)
				}
				// What comes behind the first change, a right one or not, does not matter.
				list[len(list)-1] ^= change
				wantBroken(t, g, list)
				wantBroken(t, g, list[:place])
				wantBroken(t, g, append(list, 0))
			}
		}
	}
}

func TestListsThatAreTooShortOrTooLong(t *testing.T) {
	for _, g := range greatGames() {
		values, _ := impl.ValuesOf(g)
		for length := range values {
			if at, code := impl.FirstBroken(g, values[:length]); at != int64(length) || code != impl.OK {
				t.Fatalf("FirstBroken(%v, %v) = %d, %d", g, values[:length], at, code)
			}
		}
		for _, more := range []int{1, 2, 60, 1000} {
			longer := append(slices.Clone(values), make([]impl.Nimber, more)...)
			if at, code := impl.FirstBroken(g, longer); at != int64(len(g)) || code != impl.OK {
				t.Fatalf("FirstBroken(%v, %v) = %d, %d", g, longer, at, code)
			}
			wantBroken(t, g, longer)
		}
		wantBroken(t, g, nil)
	}
}

// placesOf are all lists of at most so many places of a game.
func placesOf(g impl.Game, count int) [][]int64 {
	if count == 0 {
		return [][]int64{nil}
	}
	shorter := placesOf(g, count-1)
	all := slices.Clone(shorter)
	for _, list := range shorter {
		if len(list) == count-1 {
			for place := range g {
				all = append(all, append(slices.Clone(list), int64(place)))
			}
		}
	}
	return all
}

func TestWinningMovesAreThoseOfPlay(t *testing.T) {
	list := append(smallGames(3), gameOf(t, "- 0 0,1 1,2"), gameOf(t, "- - 0,1 2 0,1,2,3"), gameOf(t, "- 0 1 2 0,3"), gameOf(t, "- 0 0,1 0,1,2 0,1,2,3"), gameOf(t, "- 0 0 0 1,2,3"))
	for _, g := range list {
		players := losers{g: g, lost: map[string]bool{}}
		for _, places := range placesOf(g, 3) {
			want := players.winning(places)
			if got, code := impl.WinningMoves(g, places); !slices.Equal(got, want) || code != impl.OK {
				t.Fatalf("WinningMoves(%v, %v) = %v, %d, want %v", g, places, got, code, want)
			}
			if sum, code := impl.SumAt(g, places); (sum == 0) != players.isLost(places) || code != impl.OK {
				t.Fatalf("SumAt(%v, %v) = %d, %d", g, places, sum, code)
			}
		}
	}
}

// startsOf are some lists of up to MaxHeaps places.
func startsOf(d *dice, g impl.Game) [][]int64 {
	list := [][]int64{nil}
	for count := 1; count <= impl.MaxHeaps; count++ {
		places := make([]int64, count)
		for i := range places {
			places[i] = int64(d.next(len(g)))
		}
		list = append(list, places)
	}
	return append(list, []int64{int64(len(g) - 1)}, make([]int64, impl.MaxHeaps), []int64{int64(len(g) - 1), int64(len(g) - 1)})
}

func TestBehindAWinningMoveNoMoveWins(t *testing.T) {
	d := dice(5)
	for _, g := range greatGames() {
		values := valuesByPlay(g)
		for _, places := range startsOf(&d, g) {
			sum := sumOf(values, places)
			if got, code := impl.SumAt(g, places); got != sum || code != impl.OK {
				t.Fatalf("SumAt(%v, %v) = %d, %d, want %d", g, places, got, code, sum)
			}
			var want [][2]int64
			for i, place := range places {
				for _, to := range g[place] {
					if values[to] == sum^values[place] {
						want = append(want, [2]int64{int64(i), int64(to)})
					}
				}
			}
			moves, code := impl.WinningMoves(g, places)
			if !slices.Equal(moves, want) || code != impl.OK || (len(moves) == 0) != (sum == 0) {
				t.Fatalf("WinningMoves(%v, %v) = %v, %d, want %v", g, places, moves, code, want)
			}
			for _, move := range moves {
				next := slices.Clone(places)
				next[move[0]] = move[1]
				if again, code := impl.WinningMoves(g, next); len(again) != 0 || code != impl.OK {
					t.Fatalf("WinningMoves(%v, %v) = %v, %d, behind a winning move", g, next, again, code)
				}
			}
		}
	}
}

// sumOf is the sum of the values of some places, or heaps.
func sumOf(values []impl.Nimber, list []int64) impl.Nimber {
	sum := impl.Nimber(0)
	for _, at := range list {
		sum ^= values[at]
	}
	return sum
}

// A move that wins may lead to a place with a greater value, too.
func TestWinningMovesToGreaterValues(t *testing.T) {
	g := gameOf(t, "- 0 0,1 1,2 3")
	if values, code := impl.ValuesOf(g); !slices.Equal(values, []impl.Nimber{0, 1, 2, 0, 1}) || code != impl.OK {
		t.Errorf("ValuesOf = %v, %d", values, code)
	}
	for places, want := range map[[2]int64][][2]int64{
		{3, 1}: {{0, 1}, {1, 0}},
		{1, 3}: {{0, 0}, {1, 1}},
		{3, 2}: {{0, 2}, {1, 0}},
		{3, 3}: nil,
		{4, 1}: nil,
		{4, 2}: {{1, 1}},
		{4, 3}: {{0, 3}, {1, 1}},
		{0, 0}: nil,
	} {
		if got, code := impl.WinningMoves(g, places[:]); !slices.Equal(got, want) || code != impl.OK {
			t.Errorf("WinningMoves of %v = %v, %d, want %v", places, got, code, want)
		}
	}
}

func TestNoGamesAtOnce(t *testing.T) {
	for _, g := range greatGames() {
		for _, none := range [][]int64{nil, {}} {
			if sum, code := impl.SumAt(g, none); sum != 0 || code != impl.OK {
				t.Errorf("SumAt of no games = %d, %d", sum, code)
			}
			if moves, code := impl.WinningMoves(g, none); len(moves) != 0 || code != impl.OK {
				t.Errorf("WinningMoves of no games = %v, %d", moves, code)
			}
		}
	}
}

// summands are pairs of games whose sum has at most MaxPlaces places.
func summands() [][2]impl.Game {
	d := dice(11)
	small := slices.Concat(smallGames(1), smallGames(2), smallGames(3))
	var pairs [][2]impl.Game
	for _, a := range small {
		for _, b := range small {
			pairs = append(pairs, [2]impl.Game{a, b})
		}
	}
	for _, sizes := range [][2]int{{1, 60}, {60, 1}, {2, 30}, {30, 2}, {3, 20}, {6, 10}, {10, 6}, {12, 5}, {4, 15}, {7, 8}, {8, 7}, {59, 1}, {1, 59}, {29, 2}} {
		for _, chance := range []int{15, 60, 100} {
			pairs = append(pairs, [2]impl.Game{d.game(sizes[0], chance), d.game(sizes[1], chance)})
		}
	}
	return pairs
}

func TestAddGames(t *testing.T) {
	for _, pair := range summands() {
		a, b := pair[0], pair[1]
		sum, code := impl.AddGames(a, b)
		if code != impl.OK || len(sum) != len(a)*len(b) || !impl.ValidGame(sum) {
			t.Fatalf("AddGames(%v, %v) = %v, %d", a, b, sum, code)
		}
		for place, moves := range sum {
			i, k := place%len(a), place/len(a)
			var want []int8
			for to := range sum {
				inFirst := to/len(a) == k && slices.Contains(a[i], int8(to%len(a)))
				inSecond := to%len(a) == i && slices.Contains(b[k], int8(to/len(a)))
				if inFirst || inSecond {
					want = append(want, int8(to))
				}
			}
			if !slices.Equal(moves, want) {
				t.Fatalf("AddGames(%v, %v) has from the place %d the moves %v, want %v", a, b, place, moves, want)
			}
		}
	}
}

func TestTheValueOfASumIsTheSum(t *testing.T) {
	for _, pair := range summands() {
		a, b := pair[0], pair[1]
		sum, _ := impl.AddGames(a, b)
		values, code := impl.ValuesOf(sum)
		one, _ := impl.ValuesOf(a)
		two, _ := impl.ValuesOf(b)
		for place, value := range values {
			if i, k := place%len(a), place/len(a); value != one[i]^two[k] {
				t.Fatalf("the sum of %v and %v has the value %d, %d at the place %d, want %d", a, b, value, code, place, one[i]^two[k])
			}
		}
	}
}

func TestSumsOfManyGames(t *testing.T) {
	g := gameOf(t, "- 0 0,1 0,1,2")
	sum := gameOf(t, "-")
	for count := 0; count < 3; count++ {
		for place := range sum {
			digits := []int64{}
			for rest, i := place, 0; i < count; i++ {
				digits = append(digits, int64(rest%len(g)))
				rest /= len(g)
			}
			value, _ := impl.ValueAt(sum, int64(place))
			if want, code := impl.SumAt(g, digits); value != want || code != impl.OK {
				t.Errorf("the place %d of a sum has the value %d, but SumAt of %v is %d, %d", place, value, digits, want, code)
			}
		}
		sum, _ = impl.AddGames(sum, g)
	}
}

func TestAddGamesByHand(t *testing.T) {
	for _, c := range [][3]string{
		{"-", "-", "-"},
		{"- 0", "-", "- 0"},
		{"-", "- 0", "- 0"},
		{"- 0", "- 0", "- 0 0 1,2"},
		{"- -", "- 0", "- - 0 1"},
		{"- 0", "- -", "- 0 - 2"},
		{"- 0 0,1", "- 0", "- 0 0,1 0 1,3 2,3,4"},
		{"- 0", "- 0 0,1", "- 0 0 1,2 0,2 1,3,4"},
	} {
		sum, code := impl.AddGames(gameOf(t, c[0]), gameOf(t, c[1]))
		if text := impl.GameText(sum); text != c[2] || code != impl.OK {
			t.Errorf("AddGames of %q and %q = %q, %d, want %q", c[0], c[1], text, code, c[2])
		}
	}
}

func TestHeapGame(t *testing.T) {
	for heap := range int64(impl.MaxPlaces) {
		g, code := impl.HeapGame(heap)
		if code != impl.OK || int64(len(g)) != heap+1 || !impl.ValidGame(g) {
			t.Fatalf("HeapGame(%d) = %v, %d", heap, g, code)
		}
		for place, moves := range g {
			if len(moves) != place { // they are strictly increasing, as the game is valid
				t.Errorf("HeapGame(%d) has from the place %d the moves %v", heap, place, moves)
			}
			if value, code := impl.ValueAt(g, int64(place)); value != impl.Nimber(place) || code != impl.OK {
				t.Errorf("HeapGame(%d) has at the place %d the value %d, %d", heap, place, value, code)
			}
			if long, code := impl.LongestPlay(g, int64(place)); long != int64(place) || code != impl.OK {
				t.Errorf("HeapGame(%d) has at the place %d the longest play %d, %d", heap, place, long, code)
			}
		}
	}
}

// Heaps are those of chapter 1: the first move that wins is the one that leads there.
func TestHeapGamesAndLeadingMoves(t *testing.T) {
	g, _ := impl.HeapGame(impl.MaxPlaces - 1)
	d := dice(29)
	for _, places := range slices.Concat(startsOf(&d, g), startsOf(&d, g), startsOf(&d, g)) {
		var heaps []impl.Nimber
		for _, place := range places {
			heaps = append(heaps, impl.Nimber(place))
		}
		at, to, none := impl.LeadingMove(heaps)
		moves, code := impl.WinningMoves(g, places)
		about := fmt.Sprint(places, moves, code)
		if none == impl.OK && (len(moves) == 0 || moves[0] != [2]int64{at, int64(to)}) || none != impl.OK && len(moves) != 0 {
			t.Errorf("WinningMoves of heaps is %s, but LeadingMove %d, %d, %d", about, at, to, none)
		}
	}
}
