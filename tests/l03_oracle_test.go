package tests

import (
	"fmt"
	"slices"
	"testing"

	"loop.example/g01307/impl"
)

// The oracle of games plays them: it knows who loses alone, and finds values from that. A place has the value n if who is
// to move from it and from a heap of n, played at once, loses. So it needs neither sums nor what is excluded.

// valuesByPlay are the values of all places.
func valuesByPlay(g impl.Game) []impl.Nimber {
	lost := make([][]bool, len(g)) // by place and heap
	values := make([]impl.Nimber, len(g))
	for place, moves := range g {
		for heap := 0; heap <= place; heap++ { // there are no greater values, as there are not so many moves
			wins := slices.Contains(lost[place], true) // the heap is made less
			for _, to := range moves {
				wins = wins || heap < len(lost[to]) && lost[to][heap]
			}
			lost[place] = append(lost[place], !wins)
		}
		values[place] = impl.Nimber(slices.Index(lost[place], true))
	}
	return values
}

// losers tells which lists of places are lost for who is to move.
type losers struct {
	g    impl.Game
	lost map[string]bool
}

func (l losers) isLost(places []int64) bool {
	key := fmt.Sprint(places)
	if lost, found := l.lost[key]; found {
		return lost
	}
	lost := len(l.winning(places)) == 0
	l.lost[key] = lost
	return lost
}

// winning are all moves behind which the other one loses.
func (l losers) winning(places []int64) [][2]int64 {
	var moves [][2]int64
	for i, place := range places {
		for _, to := range l.g[place] {
			next := slices.Clone(places)
			next[i] = int64(to)
			if l.isLost(next) {
				moves = append(moves, [2]int64{int64(i), int64(to)})
			}
		}
	}
	return moves
}

// brokenAt follows the definition of a proof word by word; it is -1 for a proof.
func brokenAt(g impl.Game, list []impl.Nimber) int {
	for place, moves := range g {
		if place >= len(list) {
			return place
		}
		reached := map[impl.Nimber]bool{}
		for _, to := range moves {
			reached[list[to]] = true
		}
		if reached[list[place]] {
			return place
		}
		for lesser := range list[place] {
			if !reached[lesser] {
				return place
			}
		}
	}
	if len(list) > len(g) {
		return len(g)
	}
	return -1
}

// longestByPlay makes all moves that can be made, level by level.
func longestByPlay(g impl.Game, place int) int64 {
	reached := map[int8]bool{int8(place): true}
	for count := int64(0); ; count++ {
		next := map[int8]bool{}
		for from := range reached {
			for _, to := range g[from] {
				next[to] = true
			}
		}
		if len(next) == 0 {
			return count
		}
		reached = next
	}
}

// smallGames are all games of so many places.
func smallGames(places int) []impl.Game {
	if places == 0 {
		return []impl.Game{nil}
	}
	var list []impl.Game
	for _, g := range smallGames(places - 1) {
		for bits := range 1 << (places - 1) {
			var moves []int8
			for to := range places - 1 {
				if bits>>to&1 == 1 {
					moves = append(moves, int8(to))
				}
			}
			list = append(list, append(slices.Clone(g), moves))
		}
	}
	return list
}

// game has so many places, and each move with a chance of so many per cent.
func (d *dice) game(places, chance int) impl.Game {
	g := make(impl.Game, places)
	for place := range g {
		for to := range place {
			if d.next(100) < chance {
				g[place] = append(g[place], int8(to))
			}
		}
	}
	return g
}

// greatGames have up to MaxPlaces places: few moves, many, all, and none.
func greatGames() []impl.Game {
	d := dice(3)
	var list []impl.Game
	for _, places := range []int{6, 11, 25, 59, 60} {
		for _, chance := range []int{0, 2, 10, 50, 90, 100} {
			list = append(list, d.game(places, chance))
		}
	}
	chain, steps := impl.Game{nil}, impl.Game{nil}
	for place := int8(1); place < impl.MaxPlaces; place++ {
		chain = append(chain, []int8{place - 1})
		steps = append(steps, []int8{max(place-3, 0)})
	}
	return append(list, chain, steps)
}

// games are small and great ones.
func games() []impl.Game {
	var list []impl.Game
	for places := 1; places <= 5; places++ {
		list = append(list, smallGames(places)...)
	}
	return append(list, greatGames()...)
}

func copyOf(g impl.Game) impl.Game {
	if g == nil {
		return nil
	}
	list := make(impl.Game, len(g))
	for i, moves := range g {
		list[i] = slices.Clone(moves)
	}
	return list
}

// gameOf is the game with a text that has to be one.
func gameOf(t *testing.T, text string) impl.Game {
	t.Helper()
	g, code := impl.ReadGame(text)
	if code != impl.OK {
		t.Fatalf("ReadGame(%q) = %d", text, code)
	}
	return g
}

// takesOf has the bits of what may be taken.
func takesOf(numbers ...int) uint64 {
	takes := uint64(0)
	for _, n := range numbers {
		takes |= 1 << n
	}
	return takes
}

// takesLists are ordinary ones, those with a few great numbers, and those with many.
func takesLists() []uint64 {
	list := []uint64{0, takesOf(1), takesOf(2), takesOf(63), takesOf(1, 63), takesOf(62, 63), takesOf(1, 2, 3), takesOf(2, 3), takesOf(1, 3, 4), takesOf(2, 5, 7), takesOf(1, 32), takesOf(31, 33), ^uint64(1), ^uint64(3), 0x5555555555555554, 0xaaaaaaaaaaaaaaaa}
	d := dice(17)
	for i := range 40 {
		takes := uint64(0)
		for range 1 + i%7 {
			takes |= 1 << (1 + d.next(63))
		}
		list = append(list, takes, uint64(d.next(1<<31))<<33|uint64(d.next(1<<31))<<2)
	}
	return list
}

// takeValues are the values of so many heaps, which may be more than the program tells.
func takeValues(takes uint64, count int) []impl.Nimber {
	values := make([]impl.Nimber, count)
	for heap := range values {
		excluded := map[impl.Nimber]bool{}
		for n := 1; n <= 63 && n <= heap; n++ {
			if takes>>n%2 == 1 {
				excluded[values[heap-n]] = true
			}
		}
		values[heap] = leastExcluded(excluded)
	}
	return values
}

// periodOf tries all starts and periods, one by one.
func periodOf(takes uint64, bound int) (int64, int64, bool) {
	most := 63
	for takes>>most == 0 {
		most--
	}
	values := takeValues(takes, bound)
	for start := 0; start <= bound; start++ {
		for period := 1; start+period+most <= bound; period++ {
			same := true
			for heap := start; heap < start+most; heap++ {
				same = same && values[heap] == values[heap+period]
			}
			if same {
				return int64(start), int64(period), true
			}
		}
	}
	return 0, 0, false
}

// octalLeft are the pairs that may be left, found by trying all of them.
func octalLeft(digits []uint8, heap int) [][2]int64 {
	var list [][2]int64
	for lesser := 0; lesser <= heap; lesser++ {
		for greater := lesser; greater <= heap; greater++ {
			taken := heap - lesser - greater
			if taken < 1 || taken > len(digits) {
				continue
			}
			digit := digits[taken-1]
			nothing := greater == 0 && digit%2 == 1
			one := lesser == 0 && greater > 0 && digit/2%2 == 1
			two := lesser > 0 && digit/4 == 1
			if nothing || one || two {
				list = append(list, [2]int64{int64(lesser), int64(greater)})
			}
		}
	}
	return list
}

// octalValues are the values of the heaps from 0 to heap.
func octalValues(digits []uint8, heap int) []impl.Nimber {
	values := make([]impl.Nimber, heap+1)
	for at := range values {
		excluded := map[impl.Nimber]bool{}
		for _, left := range octalLeft(digits, at) {
			excluded[values[left[0]]^values[left[1]]] = true
		}
		values[at] = leastExcluded(excluded)
	}
	return values
}

// octalPlayer knows which heaps are lost for who is to move, under a rule, with a heap beside them that a move makes less.
type octalPlayer struct {
	digits []uint8
	lost   map[string]bool
}

func (o octalPlayer) isLost(heaps []int64, beside int) bool {
	key := fmt.Sprint(heaps, beside)
	if lost, found := o.lost[key]; found {
		return lost
	}
	lost := true
	for lesser := range beside {
		lost = lost && !o.isLost(heaps, lesser)
	}
	for i, heap := range heaps {
		for _, left := range octalLeft(o.digits, int(heap)) {
			next := slices.Concat(heaps[:i], heaps[i+1:], left[:])
			slices.Sort(next)
			lost = lost && !o.isLost(slices.DeleteFunc(next, func(heap int64) bool { return heap == 0 }), beside)
		}
	}
	o.lost[key] = lost
	return lost
}

// octalRules have 1 to MaxDigits digits, ordinary ones, and those whose first or last digits are 0.
func octalRules() [][]uint8 {
	list := [][]uint8{{7, 7}, {0, 7}, {0, 0, 7}, {1, 3, 7}, {3, 3, 3}, {0, 0, 0, 0, 0, 0, 0, 7}, {7, 0, 0, 0, 0, 0, 0, 0}, {7, 7, 7, 7, 7, 7, 7, 7}, {0, 0, 0, 0, 0, 0, 0, 0}, {4, 4}, {0, 6, 1}, {1, 2, 4}, {5, 0, 2, 7, 0, 3, 6, 1}}
	for digit := range uint8(8) {
		list = append(list, []uint8{digit})
	}
	d := dice(23)
	for i := range 24 {
		digits := make([]uint8, 1+i%8)
		for j := range digits {
			digits[j] = uint8(d.next(8))
		}
		list = append(list, digits)
	}
	return list
}
