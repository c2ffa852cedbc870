package tests

import (
	"fmt"
	"math"
	"slices"
	"testing"

	"loop.example/g01307/impl"
)

// Promise 1 for the functions of chapter 3: they return for all arguments, modify none, depend on nothing else, and return zero values with errors.

// gameCalls calls all functions of a game and of what has to be fine for it.
func gameCalls(g impl.Game, place int64, places []int64, list []impl.Nimber) []called {
	var all []called
	add := func(c called) { all = append(all, c) }
	values, code := impl.ValuesOf(g)
	add(call("ValuesOf", values, code))
	value, code := impl.ValueAt(g, place)
	add(call("ValueAt", value, code))
	long, code := impl.LongestPlay(g, place)
	add(call("LongestPlay", long, code))
	proof, code := impl.CheckValues(g, list)
	add(call("CheckValues", proof, code))
	broken, code := impl.FirstBroken(g, list)
	add(call("FirstBroken", broken, code))
	sum, code := impl.SumAt(g, places)
	add(call("SumAt", sum, code))
	moves, code := impl.WinningMoves(g, places)
	add(call("WinningMoves", moves, code))
	for _, other := range []impl.Game{{nil}, {nil, {0}}, make(impl.Game, impl.MaxPlaces), nil} {
		first, code := impl.AddGames(g, other)
		add(call("AddGames", first, code))
		second, code := impl.AddGames(other, g)
		add(call("AddGames", second, code))
	}
	return all
}

// invalidGames have too few or too many places, or moves that are not strictly increasing, or not to lesser places.
func invalidGames() []impl.Game {
	list := []impl.Game{nil, {}, make(impl.Game, 61), make(impl.Game, 62), make(impl.Game, 256), make(impl.Game, 316), make(impl.Game, 1_000_000), {make([]int8, 1_000_000)}, {nil, make([]int8, 999_999)}}
	for _, place := range []int{0, 1, 2, 3, 30, 58, 59} {
		for _, moves := range [][]int8{{-128}, {-1}, {-1, 0}, {0, -1}, {0, 0}, {1, 0}, {1, 1}, {0, 2, 1}, {0, 1, 1}, {0, 1, 0}, {int8(place)}, {0, int8(place)}, {int8(place) + 1}, {59}, {60}, {0, 127}, {0, 1, 2, 3, 4, 5, 6, 5}} {
			for _, behind := range []int{0, 1, impl.MaxPlaces - 1 - place} {
				g := make(impl.Game, place+1+behind)
				g[place] = moves
				list = append(list, g)
			}
		}
	}
	all, _ := impl.HeapGame(impl.MaxPlaces - 1)
	list = append(list, append(copyOf(all), nil))
	all[59][58] = 59
	return append(list, all)
}

func TestValidGame(t *testing.T) {
	for _, g := range games() {
		if !impl.ValidGame(g) {
			t.Errorf("ValidGame(%v) is false", g)
		}
	}
	for i, g := range invalidGames() {
		if impl.ValidGame(g) {
			t.Errorf("ValidGame of the invalid game %d is true", i)
		}
	}
	for places := range 200 {
		if valid := impl.ValidGame(make(impl.Game, places)); valid != (places >= 1 && places <= 60) {
			t.Errorf("ValidGame of %d places without moves is %v", places, valid)
		}
	}
}

// ErrInvalid comes before all other errors, so the places are bad ones, too.
func TestInvalidGames(t *testing.T) {
	bad := []int64{-1, math.MinInt64, math.MaxInt64}
	for i, g := range invalidGames() {
		about := fmt.Sprint("the invalid game ", i)
		for _, c := range slices.Concat(gameCalls(g, 0, nil, nil), gameCalls(g, -1, bad, []impl.Nimber{1}), gameCalls(g, 60, make([]int64, 13), make([]impl.Nimber, 61))) {
			c.wantCode(t, about, impl.ErrInvalid)
		}
		if text := impl.GameText(g); text != "" {
			t.Errorf("GameText of %s = %q", about, text)
		}
	}
}

func TestPlacesThatAreNone(t *testing.T) {
	for _, g := range greatGames() {
		count := int64(len(g))
		for _, bad := range []int64{math.MinInt64, -1 << 32, -256, -1, count, count + 1, 256, 1 << 32, math.MaxInt64} {
			about := fmt.Sprint(count, " places and ", bad)
			value, code := impl.ValueAt(g, bad)
			call("ValueAt", value, code).wantCode(t, about, impl.ErrRange)
			long, code := impl.LongestPlay(g, bad)
			call("LongestPlay", long, code).wantCode(t, about, impl.ErrRange)
			for _, length := range []int{1, 2, 11, 12, 13, 14} {
				for _, at := range []int{0, length / 2, length - 1} {
					places := make([]int64, length)
					places[at] = bad
					want := int64(impl.ErrRange)
					if length > 12 { // the number of places is looked at first
						want = impl.ErrLimit
					}
					sum, code := impl.SumAt(g, places)
					call("SumAt", sum, code).wantCode(t, about, want)
					moves, code := impl.WinningMoves(g, places)
					call("WinningMoves", moves, code).wantCode(t, about, want)
				}
			}
		}
	}
}

func TestNumberOfGamesAtOnce(t *testing.T) {
	for _, g := range []impl.Game{{nil}, {nil, {0}}, make(impl.Game, impl.MaxPlaces)} {
		for _, length := range []int{0, 1, 11, 12, 13, 14, 256, 268, 1_000_000} {
			want := int64(impl.OK)
			if length > 12 {
				want = impl.ErrLimit
			}
			sum, code := impl.SumAt(g, make([]int64, length))
			call("SumAt", sum, code).wantCode(t, fmt.Sprint(length, " games"), want)
			moves, code := impl.WinningMoves(g, make([]int64, length))
			call("WinningMoves", moves, code).wantCode(t, fmt.Sprint(length, " games"), want)
			taken, code := impl.TakeMoves(2, make([]int64, length))
			call("TakeMoves", taken, code).wantCode(t, fmt.Sprint(length, " heaps"), want)
		}
	}
}

func TestAddGamesLimit(t *testing.T) {
	for a := 1; a <= impl.MaxPlaces; a++ {
		for b := 1; b <= impl.MaxPlaces; b++ {
			want := int64(impl.OK)
			if a*b > 60 {
				want = impl.ErrLimit
			}
			sum, code := impl.AddGames(make(impl.Game, a), make(impl.Game, b))
			call("AddGames", sum, code).wantCode(t, fmt.Sprint(a, " and ", b, " places"), want)
		}
	}
}

func TestHeapGameLimits(t *testing.T) {
	for _, heap := range []int64{math.MinInt64, -256, -1, 60, 61, 127, 128, 255, 256, 300, 1 << 32, math.MaxInt64} {
		g, code := impl.HeapGame(heap)
		call("HeapGame", g, code).wantCode(t, fmt.Sprint(heap), impl.ErrRange)
	}
}

func TestHeapsThatAreNone(t *testing.T) {
	for _, takes := range []uint64{0, 2, 14, 1 << 63, ^uint64(1)} {
		for _, bad := range []int64{math.MinInt64, -1 << 32, -501, -1, 501, 502, 512, 1 << 32, math.MaxInt64} {
			about := fmt.Sprintf("%#x and %d", takes, bad)
			values, code := impl.TakeValues(takes, bad)
			call("TakeValues", values, code).wantCode(t, about, impl.ErrRange)
			for _, heaps := range [][]int64{{bad}, {0, 500, bad}, {bad, 7}, append(make([]int64, 11), bad)} {
				moves, code := impl.TakeMoves(takes, heaps)
				call("TakeMoves", moves, code).wantCode(t, about, impl.ErrRange)
			}
			moves, code := impl.TakeMoves(takes, append(make([]int64, 12), bad))
			call("TakeMoves", moves, code).wantCode(t, about, impl.ErrLimit)
		}
		for _, heap := range []int64{0, 1, 499, 500} {
			values, code := impl.TakeValues(takes, heap)
			call("TakeValues", values, code).wantCode(t, fmt.Sprintf("%#x and %d", takes, heap), impl.OK)
			moves, code := impl.TakeMoves(takes, []int64{heap, 500})
			call("TakeMoves", moves, code).wantCode(t, fmt.Sprintf("%#x and %d", takes, heap), impl.OK)
		}
	}
}

func TestNothingCannotBeTaken(t *testing.T) {
	for _, takes := range []uint64{1, 3, 15, 1<<63 | 1, math.MaxUint64} {
		about := fmt.Sprintf("%#x", takes)
		for _, heap := range []int64{-1, 0, 1, 500, 501} {
			values, code := impl.TakeValues(takes, heap)
			call("TakeValues", values, code).wantCode(t, about, impl.ErrRange)
			moves, code := impl.TakeMoves(takes, []int64{heap})
			call("TakeMoves", moves, code).wantCode(t, about, impl.ErrRange)
		}
		moves, code := impl.TakeMoves(takes, nil)
		call("TakeMoves", moves, code).wantCode(t, about, impl.ErrRange)
		moves, code = impl.TakeMoves(takes, make([]int64, 12))
		call("TakeMoves", moves, code).wantCode(t, about, impl.ErrRange)
		moves, code = impl.TakeMoves(takes, make([]int64, 13))
		call("TakeMoves", moves, code).wantCode(t, about, impl.ErrLimit)
		start, period, code := impl.TakePeriod(takes)
		call("TakePeriod", [2]int64{start, period}, code).wantCode(t, about, impl.ErrRange)
	}
}

func TestOctalRulesThatAreNone(t *testing.T) {
	bad := [][]uint8{nil, {}, make([]uint8, 9), make([]uint8, 257), make([]uint8, 264), make([]uint8, 1_000_000), slices.Repeat([]uint8{7}, 9)}
	for _, digit := range []uint8{8, 9, 15, 16, 64, 128, 255} {
		for length := 1; length <= 9; length++ {
			for _, at := range []int{0, length - 1} {
				digits := make([]uint8, length)
				digits[at] = digit
				bad = append(bad, digits)
			}
		}
	}
	for _, digits := range bad {
		for _, heap := range []int64{-1, 0, 1, 200, 201} {
			values, code := impl.OctalValues(digits, heap)
			call("OctalValues", values, code).wantCode(t, fmt.Sprint(len(digits), " digits"), impl.ErrRange)
			moves, code := impl.OctalMoves(digits, heap)
			call("OctalMoves", moves, code).wantCode(t, fmt.Sprint(len(digits), " digits"), impl.ErrRange)
		}
	}
}

func TestOctalHeapsLimits(t *testing.T) {
	for _, digits := range [][]uint8{{0}, {7}, {7, 7, 7, 7, 7, 7, 7, 7}} {
		for _, heap := range []int64{math.MinInt64, -256, -1, 0, 1, 200, 201, 202, 256, 1 << 32, math.MaxInt64} {
			want := int64(impl.OK)
			if heap < 0 || heap > 200 {
				want = impl.ErrRange
			}
			values, code := impl.OctalValues(digits, heap)
			call("OctalValues", values, code).wantCode(t, fmt.Sprint(heap), want)
			moves, code := impl.OctalMoves(digits, heap)
			call("OctalMoves", moves, code).wantCode(t, fmt.Sprint(heap), want)
		}
	}
}

// The sum of start and period may be greater than an int64 holds.
func TestRepeatsFromLimits(t *testing.T) {
	great := []int64{math.MaxInt64, math.MaxInt64 - 1, math.MaxInt64 / 2, math.MaxInt64/2 + 1, 1 << 32, 1 << 31}
	for _, list := range [][]impl.Nimber{nil, {}, {1}, {1, 1, 1}, make([]impl.Nimber, 1_000_000)} {
		count := int64(len(list))
		for _, a := range append(great, math.MinInt64, -1) {
			for _, pair := range [][2]int64{{a, 1}, {a, a}, {0, a}, {1, a}, {-1, 1}, {0, 0}, {0, count + 1}, {count, 1}, {count - 1, 2}, {count + 1, 1}} {
				again, code := impl.RepeatsFrom(list, pair[0], pair[1])
				call("RepeatsFrom", again, code).wantCode(t, fmt.Sprint(count, " entries, ", pair), impl.ErrRange)
			}
		}
		for _, pair := range [][2]int64{{0, count}, {count - 1, 1}, {0, 1}, {count / 2, count - count/2}} {
			again, code := impl.RepeatsFrom(list, pair[0], pair[1])
			if want := count > 0; again != want || (code == impl.OK) != want {
				t.Errorf("RepeatsFrom of %d entries, %v = %v, %d", count, pair, again, code)
			}
		}
	}
}

func TestGreatListsOfValues(t *testing.T) {
	list := make([]impl.Nimber, 1_000_000)
	if proof, code := impl.CheckValues(impl.Game{nil}, list); proof || code != impl.OK {
		t.Errorf("CheckValues of a great list = %v, %d", proof, code)
	}
	if at, code := impl.FirstBroken(impl.Game{nil}, list); at != 1 || code != impl.OK {
		t.Errorf("FirstBroken of a great list = %d, %d", at, code)
	}
	list[999_999] = 1
	if again, code := impl.RepeatsFrom(list, 0, 1); again || code != impl.OK {
		t.Errorf("RepeatsFrom of a great list = %v, %d", again, code)
	}
	if again, code := impl.RepeatsFrom(list[:999_999], 5, 1000); !again || code != impl.OK {
		t.Errorf("RepeatsFrom of a great list of zeros = %v, %d", again, code)
	}
}

func TestSameGame(t *testing.T) {
	list := append(games(), invalidGames()[:9]...)
	list = append(list, impl.Game{{1}}, impl.Game{{1, 0}}, impl.Game{{0, 1}}, impl.Game{nil, {-1}}, impl.Game{{127}, {-128}})
	var texts []string
	for i, a := range list {
		if !impl.SameGame(a, copyOf(a)) {
			t.Errorf("SameGame of a copy of the game %d is false", i)
		}
		texts = append(texts, fmt.Sprint(a))
		for j := max(0, i-70); j < i; j++ {
			if same := impl.SameGame(a, list[j]); same != (texts[i] == texts[j]) {
				t.Errorf("SameGame of the games %d and %d is %v", i, j, same)
			}
		}
	}
	for _, c := range []struct {
		a, b impl.Game
		want bool
	}{
		{nil, impl.Game{}, true},
		{impl.Game{nil, {0}}, impl.Game{{}, {0}}, true},
		{nil, impl.Game{nil}, false},
		{impl.Game{nil}, impl.Game{nil, nil}, false},
		{impl.Game{nil, {0}}, impl.Game{nil, {0, 1}}, false},
		{impl.Game{nil, {0}, {0, 1}}, impl.Game{nil, {0}, {1, 0}}, false},
	} {
		if impl.SameGame(c.a, c.b) != c.want || impl.SameGame(c.b, c.a) != c.want {
			t.Errorf("SameGame(%v, %v) is not %v", c.a, c.b, c.want)
		}
	}
}

// gameResults is the text of what all functions of a game and of lists return.
func gameResults(g impl.Game, places []int64, list []impl.Nimber) string {
	return fmt.Sprint(gameCalls(g, 2, places, list), impl.ValidGame(g), impl.SameGame(g, g), impl.GameText(g))
}

// heapResults is the text of what all functions of heaps and of lists return.
func heapResults(heaps []int64, digits []uint8, list []impl.Nimber) string {
	moves, one := impl.TakeMoves(14, heaps)
	values, two := impl.OctalValues(digits, 30)
	left, three := impl.OctalMoves(digits, 30)
	again, four := impl.RepeatsFrom(list, 0, 2)
	taken, five := impl.TakeValues(42, 30)
	start, period, six := impl.TakePeriod(42)
	return fmt.Sprint(moves, one, values, two, left, three, again, four, taken, five, start, period, six)
}

// withRoom is a copy with unused capacity, which is not empty.
func withRoom[E any](list []E, behind E) []E {
	return append(slices.Clone(list), behind, behind, behind)[:len(list)]
}

func TestGamesAreNotModified(t *testing.T) {
	for _, g := range append(greatGames(), gameOf(t, "- 0 0,1 1,2"), impl.Game{{3, 2}, {1}, {9, 9, -1}}) {
		whole := withRoom(g, []int8{5, 5})
		for i, moves := range whole {
			whole[i] = withRoom(moves, 6)
		}
		places, list := withRoom([]int64{2, 1, 2}, 7), withRoom([]impl.Nimber{0, 1, 2, 0}, 8)
		shown := func() string {
			text := fmt.Sprint(whole[:cap(whole)], places[:cap(places)], list[:cap(list)])
			for _, moves := range whole {
				text += fmt.Sprint(moves[:cap(moves)])
			}
			return text
		}
		before := shown()
		got := gameResults(whole, places, list)
		if after := shown(); after != before {
			t.Errorf("%s became %s", before, after)
		}
		if other := gameResults(copyOf(g), []int64{2, 1, 2}, []impl.Nimber{0, 1, 2, 0}); other != got {
			t.Errorf("%v has other results with unused capacity", g)
		}
	}
}

func TestHeapsAndDigitsAreNotModified(t *testing.T) {
	heaps, digits, list := withRoom([]int64{5, 2, 500, 2}, 1), withRoom([]uint8{7, 0, 5, 2}, 3), withRoom([]impl.Nimber{4, 1, 4, 1, 4}, 9)
	got := heapResults(heaps, digits, list)
	if want := heapResults([]int64{5, 2, 500, 2}, []uint8{7, 0, 5, 2}, []impl.Nimber{4, 1, 4, 1, 4}); got != want {
		t.Errorf("the results are %s with unused capacity, and %s without", got, want)
	}
	if !slices.Equal(heaps[:7], []int64{5, 2, 500, 2, 1, 1, 1}) || !slices.Equal(digits[:7], []uint8{7, 0, 5, 2, 3, 3, 3}) || !slices.Equal(list[:8], []impl.Nimber{4, 1, 4, 1, 4, 9, 9, 9}) {
		t.Errorf("the arguments became %v, %v and %v", heaps[:7], digits[:7], list[:8])
	}
}

func TestNilAndEmptyMovesAreEquivalent(t *testing.T) {
	for _, places := range []int{0, 1, 2, 3, 60, 61} {
		none, empty := make(impl.Game, places), make(impl.Game, places)
		for i := range empty {
			empty[i] = []int8{}
		}
		if a, b := gameResults(none, nil, nil), gameResults(empty, []int64{}, []impl.Nimber{}); a != b {
			t.Errorf("%d places: nil %s, empty %s", places, a, b)
		}
	}
	if a, b := heapResults(nil, nil, nil), heapResults([]int64{}, []uint8{}, []impl.Nimber{}); a != b {
		t.Errorf("nil: %s, empty: %s", a, b)
	}
}

func TestEqualGamesHaveEqualResults(t *testing.T) {
	wantSameAtOnce(t, func() string {
		text := ""
		for _, g := range greatGames() {
			text += gameResults(g, []int64{1, 2, 5}, []impl.Nimber{0, 1, 2, 0})
		}
		for _, digits := range octalRules() {
			text += heapResults([]int64{5, 2, 500, 2}, digits, []impl.Nimber{4, 1, 4, 1, 4})
		}
		return text
	})
}

// spoilGame overwrites the moves from a place and their unused capacity.
func spoilGame(g impl.Game, place int) {
	moves := g[place][:cap(g[place])]
	for i := range moves {
		moves[i] = 99
	}
}

func TestReturnedGamesAreNew(t *testing.T) {
	heap, _ := impl.HeapGame(5)
	calls := map[string]func() impl.Game{
		"AddGames":         func() impl.Game { g, _ := impl.AddGames(heap, heap); return g },
		"AddGames and one": func() impl.Game { g, _ := impl.AddGames(heap, impl.Game{nil}); return g },
		"one and AddGames": func() impl.Game { g, _ := impl.AddGames(impl.Game{nil}, heap); return g },
		"HeapGame":         func() impl.Game { g, _ := impl.HeapGame(59); return g },
		"ReadGame":         func() impl.Game { g, _ := impl.ReadGame("- 0 0,1 0,1,2 0,1,2,3 0,1,2,3,4 1,2,3,4,5"); return g },
	}
	for name, call := range calls {
		kept := copyOf(call())
		for place := range kept {
			first, second := call(), call()
			spoilGame(first, place)
			if !slices.EqualFunc(second, kept, slices.Equal[[]int8]) {
				t.Errorf("%s: a change of one result changed another one", name)
			}
			first[place] = kept[place]
			if !slices.EqualFunc(first, kept, slices.Equal[[]int8]) {
				t.Errorf("%s: a change of the moves from %d changed other moves", name, place)
			}
		}
	}
	if want := "- 0 0,1 0,1,2 0,1,2,3 0,1,2,3,4"; impl.GameText(heap) != want {
		t.Errorf("a change of a sum changed its part to %q", impl.GameText(heap))
	}
}

func TestReturnedValuesAreNew(t *testing.T) {
	heap, _ := impl.HeapGame(5)
	calls := map[string]func() []impl.Nimber{
		"ValuesOf":    func() []impl.Nimber { list, _ := impl.ValuesOf(heap); return list },
		"TakeValues":  func() []impl.Nimber { list, _ := impl.TakeValues(14, 9); return list },
		"OctalValues": func() []impl.Nimber { list, _ := impl.OctalValues([]uint8{7, 7}, 9); return list },
	}
	for name, call := range calls {
		first := call()
		kept := slices.Clone(first)
		second := call()
		spoil(first)
		if third := call(); !slices.Equal(second, kept) || !slices.Equal(third, kept) {
			t.Errorf("%s: a change of one result changed another one", name)
		}
	}
}
