package tests

import (
	"math/bits"
	"slices"
	"sync"

	"loop.example/g01307/impl"
)

// The oracle of coins knows turns by looking at all masks there are, values of rows and boards as those of states of a game,
// of which it sums up nothing, and values of coins by the sequences that are known for the rules.

// rules are all of them.
func rules() []int64 {
	return []int64{impl.RlSingle, impl.RlTurtles, impl.RlTwins, impl.RlMock, impl.RlRuler, impl.RlTriplets}
}

// rulePairs are all pairs of a rule across and one down.
func rulePairs() [][2]int64 {
	var pairs [][2]int64
	for _, across := range rules() {
		for _, down := range rules() {
			pairs = append(pairs, [2]int64{across, down})
		}
	}
	return pairs
}

// isTurnByRule looks at any mask, also at one with coins that there are not.
func isTurnByRule(rule int64, mask uint32) bool {
	count := bits.OnesCount32(mask)
	switch rule {
	case impl.RlSingle:
		return count == 1
	case impl.RlTurtles:
		return count == 1 || count == 2
	case impl.RlTwins:
		return count == 2
	case impl.RlMock:
		return count >= 1 && count <= 3
	case impl.RlRuler:
		return count >= 1 && bits.Len32(mask)-bits.TrailingZeros32(mask) == count
	}
	return count == 3
}

// ruleTurns are all turns of each rule, by their greatest coins, in ascending order.
var ruleTurns = sync.OnceValue(func() [6][24][]uint32 {
	var turns [6][24][]uint32
	for mask := uint32(1); mask < 1<<24; mask++ {
		top := bits.Len32(mask) - 1
		for rule := range turns {
			if isTurnByRule(int64(rule), mask) {
				turns[rule][top] = append(turns[rule][top], mask)
			}
		}
	}
	return turns
})

// oddNumber is the number with an odd number of bits before which there are so many.
func oddNumber(before int) impl.Nimber {
	for n := uint(0); ; n++ {
		if bits.OnesCount(n)%2 == 1 {
			if before == 0 {
				return impl.Nimber(n)
			}
			before--
		}
	}
}

// knownValue is the value of a coin by the sequence of its rule.
func knownValue(rule int64, coin int) impl.Nimber {
	switch rule {
	case impl.RlSingle:
		return 1
	case impl.RlTurtles:
		return impl.Nimber(coin + 1)
	case impl.RlTwins:
		return impl.Nimber(coin)
	case impl.RlMock:
		return oddNumber(coin)
	case impl.RlRuler:
		power := impl.Nimber(1)
		for (coin+1)%int(2*power) == 0 {
			power *= 2
		}
		return power
	}
	if coin < 2 {
		return 0
	}
	return oddNumber(coin - 2)
}

// knownSum is the value of a row.
func knownSum(rule int64, row uint32) impl.Nimber {
	sum := impl.Nimber(0)
	for coin := range 24 {
		if row>>coin&1 == 1 {
			sum ^= knownValue(rule, coin)
		}
	}
	return sum
}

// valuesOfStates are the values of so many states, if moves from a state lead to lesser ones.
func valuesOfStates(count int, behind func(state int) []int) []impl.Nimber {
	values := make([]impl.Nimber, count)
	for state := range values {
		excluded := map[impl.Nimber]bool{}
		for _, next := range behind(state) {
			excluded[values[next]] = true
		}
		values[state] = leastExcluded(excluded)
	}
	return values
}

// turnsFrom are all turns that a row allows, in the order in which a winning one is looked for.
func turnsFrom(rule int64, row uint32) []uint32 {
	var turns []uint32
	for coin := range 24 {
		if row>>coin&1 == 1 {
			turns = append(turns, ruleTurns()[rule][coin]...)
		}
	}
	return turns
}

// rowValuesByPlay are the values of all rows of so many coins.
func rowValuesByPlay(rule int64, coins int) []impl.Nimber {
	return valuesOfStates(1<<coins, func(row int) []int {
		var rows []int
		for _, turn := range turnsFrom(rule, uint32(row)) {
			rows = append(rows, row^int(turn))
		}
		return rows
	})
}

// wantedPlay are the turns to the end.
func wantedPlay(rule int64, row uint32) []uint32 {
	var play []uint32
	for {
		turns := turnsFrom(rule, row)
		if len(turns) == 0 {
			return play
		}
		at := max(0, slices.IndexFunc(turns, func(turn uint32) bool { return knownSum(rule, row^turn) == 0 }))
		play = append(play, turns[at])
		row ^= turns[at]
	}
}

// bitAt is the bit of a coin of a board.
func bitAt(x, y int) uint64 { return 1 << (x + 8*y) }

// boardTurn is a turn of a board, with what it turns and the greatest one of these.
type boardTurn struct {
	turn  impl.Turn
	cells uint64
	top   uint64
	value impl.Nimber
}

// cellsByPlaces looks at each place of the board.
func cellsByPlaces(t impl.Turn) uint64 {
	cells := uint64(0)
	for x := range 8 {
		for y := range 8 {
			if t.Across>>x&1 == 1 && t.Down>>y&1 == 1 {
				cells |= bitAt(x, y)
			}
		}
	}
	return cells
}

// knownBoard is the value of a board.
func knownBoard(across, down int64, board uint64) impl.Nimber {
	value := impl.Nimber(0)
	for x := range 8 {
		for y := range 8 {
			if board&bitAt(x, y) != 0 {
				value ^= theOracle().times(knownValue(across, x), knownValue(down, y))
			}
		}
	}
	return value
}

// boardTurns are all turns by two rules, in the order in which a winning one is looked for.
func boardTurns(across, down int64) []boardTurn {
	var turns []boardTurn
	for y := range 8 {
		for x := range 8 {
			for _, columns := range ruleTurns()[across][x] {
				for _, rows := range ruleTurns()[down][y] {
					t := impl.Turn{Across: columns, Down: rows}
					cells := cellsByPlaces(t)
					turns = append(turns, boardTurn{turn: t, cells: cells, top: bitAt(x, y), value: knownBoard(across, down, cells)})
				}
			}
		}
	}
	return turns
}

// anyRows are rows with few coins and with many, with the last coin and without it, and those whose value is 0.
func anyRows(rule int64) []uint32 {
	list := []uint32{0, 1, 2, 3, 4, 5, 7, 1 << 22, 1 << 23, 1<<23 | 1, 3 << 22, 7 << 21, 1<<24 - 1, 1<<23 - 1, 1<<24 - 2, 0x555555, 0xaaaaaa}
	d := dice(71 + rule)
	for range 12 {
		row := uint32(d.next(1 << 24))
		list = append(list, row, row&uint32(d.next(1<<24)), row|1<<23)
	}
	for _, row := range list[:len(list):len(list)] {
		for _, turn := range turnsFrom(rule, row) {
			if knownSum(rule, row^turn) == 0 {
				list = append(list, row^turn)
				break
			}
		}
	}
	return list
}

// anyBoards are boards with one coin, with few and with many, and with the last one.
func anyBoards(seed int64) []uint64 {
	list := []uint64{0, 1<<64 - 1, 1<<63 | 1, 1<<63 - 1, 0xff, 0xff << 56, 0x0101010101010101, 0x8080808080808080, 0x8040201008040201}
	for bit := range 64 {
		list = append(list, 1<<bit)
	}
	d := dice(seed)
	for range 6 {
		board := uint64(d.next(1<<31))<<33 | uint64(d.next(1<<31))<<11 | uint64(d.next(1<<11))
		list = append(list, board, board|1<<63, board&uint64(d.next(1<<31)), board<<40)
	}
	return list
}
