package tests

import (
	"math/bits"
	"testing"

	"loop.example/g01307/impl"
)

// Promise 11: values of rectangles are products, by what is excluded, too, and behind a winning rectangle the value is 0.

func TestValuesOfRectanglesAreProducts(t *testing.T) {
	for _, pair := range rulePairs() {
		for x := range 8 {
			for y := range 8 {
				want := theOracle().times(knownValue(pair[0], x), knownValue(pair[1], y))
				if got, code := impl.CellValue(pair[0], pair[1], int64(x), int64(y)); got != want || code != impl.OK {
					t.Errorf("CellValue(%v, %d, %d) = %d, %d, want %d", pair, x, y, got, code, want)
				}
				if x > 4 || y > 4 {
					continue
				}
				if got, code := impl.RectangleByExclusion(pair[0], pair[1], int64(x), int64(y)); got != want || code != impl.OK {
					t.Errorf("RectangleByExclusion(%v, %d, %d) = %d, %d, want %d", pair, x, y, got, code, want)
				}
			}
		}
	}
}

// corner is a part of the board, on which all boards are states of a game.
type corner struct{ width, height int }

func corners() []corner { return []corner{{3, 3}, {5, 2}, {2, 5}, {1, 8}, {8, 1}} }

func (c corner) board(state int) uint64 {
	board := uint64(0)
	for x := range c.width {
		for y := range c.height {
			if state>>(x+c.width*y)&1 == 1 {
				board |= bitAt(x, y)
			}
		}
	}
	return board
}

func (c corner) holds(t impl.Turn) bool {
	return bits.Len32(t.Across) <= c.width && bits.Len32(t.Down) <= c.height
}

// play returns the values of all boards of the corner, and, for each one, the first turn behind which the value is 0.
func (c corner) play(across, down int64) ([]impl.Nimber, []impl.Turn) {
	states := 1 << (c.width * c.height)
	numbers := map[uint64]int{}
	for state := range states {
		numbers[c.board(state)] = state
	}
	var turns []boardTurn
	for _, turn := range boardTurns(across, down) {
		if c.holds(turn.turn) {
			turns = append(turns, turn)
		}
	}
	values := valuesOfStates(states, func(state int) []int {
		var next []int
		for _, turn := range turns {
			if board := c.board(state); board&turn.top != 0 {
				next = append(next, numbers[board^turn.cells])
			}
		}
		return next
	})
	wins := make([]impl.Turn, states)
	for state := range wins {
		for _, turn := range turns {
			if board := c.board(state); board&turn.top != 0 && values[numbers[board^turn.cells]] == 0 {
				wins[state] = turn.turn
				break
			}
		}
	}
	return values, wins
}

func TestBoardsAreThoseOfPlay(t *testing.T) {
	for _, pair := range rulePairs() {
		for _, part := range corners() {
			values, wins := part.play(pair[0], pair[1])
			for state, want := range values {
				board := part.board(state)
				if got, code := impl.BoardValue(pair[0], pair[1], board); got != want || code != impl.OK {
					t.Fatalf("BoardValue(%v, %#x) = %d, %d, want %d", pair, board, got, code, want)
				}
				if (wins[state] == impl.Turn{}) != (want == 0) {
					t.Fatalf("the board %#x of %v has the value %d, and %v wins", board, pair, want, wins[state])
				}
				wantRectangle(t, pair, board, wins[state])
			}
		}
	}
}

// wantRectangle expects a turn that wins, or none, if it has no masks.
func wantRectangle(t *testing.T, pair [2]int64, board uint64, want impl.Turn) {
	t.Helper()
	wantCode := int64(impl.OK)
	if want == (impl.Turn{}) {
		wantCode = impl.ErrNotFound
	}
	if got, code := impl.WinningRectangle(pair[0], pair[1], board); got != want || code != wantCode {
		t.Fatalf("WinningRectangle(%v, %#x) = %v, %d, want %v, %d", pair, board, got, code, want, wantCode)
	}
}

func TestBehindAWinningRectangleTheValueIsZero(t *testing.T) {
	for _, pair := range rulePairs() {
		turns := boardTurns(pair[0], pair[1])
		for _, board := range anyBoards(3 + pair[0]*6 + pair[1]) {
			value := knownBoard(pair[0], pair[1], board)
			if got, code := impl.BoardValue(pair[0], pair[1], board); got != value || code != impl.OK {
				t.Fatalf("BoardValue(%v, %#x) = %d, %d, want %d", pair, board, got, code, value)
			}
			var first boardTurn
			for _, turn := range turns {
				if board&turn.top != 0 && turn.value == value {
					first = turn
					break
				}
			}
			wantRectangle(t, pair, board, first.turn)
			if (first.cells == 0) != (value == 0) {
				t.Fatalf("the board %#x of %v has the value %d, and %v wins", board, pair, value, first.turn)
			}
			if value == 0 {
				continue
			}
			next, code := impl.TurnBoard(pair[0], pair[1], board, first.turn)
			if next != board^first.cells || code != impl.OK {
				t.Fatalf("TurnBoard(%v, %#x, %v) = %#x, %d", pair, board, first.turn, next, code)
			}
			if got, code := impl.BoardValue(pair[0], pair[1], next); got != 0 || code != impl.OK {
				t.Fatalf("BoardValue(%v, %#x) = %d, %d, behind a winning rectangle", pair, next, got, code)
			}
			wantRectangle(t, pair, next, impl.Turn{})
		}
	}
}

// Of the turns of one coin that win, the least Across decides, and then the least Down, and not the least bits that are turned.
func TestWinningRectanglesByHand(t *testing.T) {
	for _, c := range []struct {
		across, down int64
		board        uint64
		want         impl.Turn
	}{
		{impl.RlTurtles, impl.RlTurtles, 1, impl.Turn{Across: 1, Down: 1}},
		{impl.RlTurtles, impl.RlTurtles, bitAt(7, 0), impl.Turn{Across: 128, Down: 1}},
		{impl.RlTurtles, impl.RlTurtles, bitAt(0, 7), impl.Turn{Across: 1, Down: 128}},
		{impl.RlTurtles, impl.RlTurtles, bitAt(7, 7), impl.Turn{Across: 128, Down: 128}},
		{impl.RlTurtles, impl.RlTurtles, bitAt(1, 1) | bitAt(1, 0), impl.Turn{Across: 2, Down: 3}}, // 3 and 2 sum up to 1, which is the product of 2 and 3: across 3 and down 2 would win, too
		{impl.RlTwins, impl.RlTwins, 1, impl.Turn{}},
		{impl.RlTwins, impl.RlTwins, bitAt(0, 7), impl.Turn{}},
		{impl.RlTwins, impl.RlTwins, bitAt(7, 7), impl.Turn{Across: 129, Down: 129}},
		{impl.RlSingle, impl.RlSingle, bitAt(7, 7) | bitAt(3, 3), impl.Turn{}},
		{impl.RlTriplets, impl.RlSingle, bitAt(2, 5), impl.Turn{Across: 7, Down: 32}},
	} {
		wantRectangle(t, [2]int64{c.across, c.down}, c.board, c.want)
	}
}

// checkTurnBoard expects any masks.
func checkTurnBoard(t *testing.T, pair [2]int64, board uint64, turn impl.Turn) {
	t.Helper()
	want, wantCode := uint64(0), int64(impl.ErrState)
	if turn.Across < 256 && turn.Down < 256 && isTurnByRule(pair[0], turn.Across) && isTurnByRule(pair[1], turn.Down) {
		if board&bitAt(bits.Len32(turn.Across)-1, bits.Len32(turn.Down)-1) != 0 {
			want, wantCode = board^cellsByPlaces(turn), impl.OK
		}
	}
	if got, code := impl.TurnBoard(pair[0], pair[1], board, turn); got != want || code != wantCode {
		t.Fatalf("TurnBoard(%v, %#x, %v) = %#x, %d, want %#x, %d", pair, board, turn, got, code, want, wantCode)
	}
}

func TestTurnBoard(t *testing.T) {
	masks := []uint32{0, 1, 2, 3, 5, 7, 11, 15, 64, 128, 129, 192, 131, 193, 224, 160, 255, 127, 256, 257, 384, 448, 1 << 23, 1<<23 | 1, 3 << 22, 1 << 24, 1 << 31, 1<<31 | 128, 1<<32 - 1}
	for _, pair := range rulePairs() {
		for _, board := range []uint64{0, 1, 1 << 63, 1<<63 - 1, 1<<64 - 1, 0x8001000000000081, 0x123456789abcdef0} {
			for _, across := range masks {
				for _, down := range masks {
					checkTurnBoard(t, pair, board, impl.Turn{Across: across, Down: down})
				}
			}
		}
	}
}

// The greatest coin has the greatest column and the greatest row of the turn; all other ones may show anything.
func TestTheGreatestCoinOfABoard(t *testing.T) {
	turn := impl.Turn{Across: 0b11000000, Down: 0b11000000}
	for _, c := range []struct{ board, want uint64 }{
		{bitAt(7, 7), bitAt(6, 6) | bitAt(7, 6) | bitAt(6, 7)},
		{bitAt(6, 6) | bitAt(7, 6) | bitAt(6, 7), 0},
		{bitAt(6, 6) | bitAt(7, 6) | bitAt(6, 7) | bitAt(7, 7), 0},
		{bitAt(7, 7) | bitAt(0, 0) | bitAt(6, 7), bitAt(0, 0) | bitAt(6, 6) | bitAt(7, 6)},
		{0, 0},
	} {
		want := int64(impl.OK)
		if c.board&bitAt(7, 7) == 0 {
			want = impl.ErrState
		}
		for _, rule := range []int64{impl.RlTurtles, impl.RlTwins, impl.RlMock, impl.RlRuler} {
			if got, code := impl.TurnBoard(rule, rule, c.board, turn); got != c.want || code != want {
				t.Errorf("TurnBoard(%d, %d, %#x, %v) = %#x, %d, want %#x, %d", rule, rule, c.board, turn, got, code, c.want, want)
			}
		}
	}
}

func TestCellsOf(t *testing.T) {
	for across := range uint32(256) {
		for down := range uint32(256) {
			turn := impl.Turn{Across: across, Down: down}
			if cells, code := impl.CellsOf(turn); cells != cellsByPlaces(turn) || code != impl.OK {
				t.Fatalf("CellsOf(%v) = %#x, %d, want %#x", turn, cells, code, cellsByPlaces(turn))
			}
		}
	}
}

// Columns and rows are exchanged together with their rules.
func TestBoardsTurnedOver(t *testing.T) {
	for _, pair := range rulePairs() {
		for _, board := range anyBoards(91) {
			over := uint64(0)
			for x := range 8 {
				for y := range 8 {
					if board&bitAt(x, y) != 0 {
						over |= bitAt(y, x)
					}
				}
			}
			one, _ := impl.BoardValue(pair[0], pair[1], board)
			other, _ := impl.BoardValue(pair[1], pair[0], over)
			if one != other {
				t.Errorf("BoardValue(%v, %#x) = %d, but %d with rows for columns", pair, board, one, other)
			}
		}
	}
}
