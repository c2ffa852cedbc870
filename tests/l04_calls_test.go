package tests

import (
	"fmt"
	"math"
	"runtime"
	"slices"
	"testing"

	"loop.example/g01307/impl"
)

// Promise 1 for the functions of chapter 4: they return for all arguments, depend on nothing else, return zero values with errors, and leave no goroutines.

// rowCalls calls all functions that have a row.
func rowCalls(rule int64, row, mask uint32) []called {
	value, one := impl.RowValue(rule, row)
	turned, two := impl.TurnRow(rule, row, mask)
	turn, three := impl.WinningTurn(rule, row)
	count, four := impl.CountWinningTurns(rule, row)
	play, five := impl.PlayRow(rule, row)
	return []called{call("RowValue", value, one), call("TurnRow", turned, two), call("WinningTurn", turn, three), call("CountWinningTurns", count, four), call("PlayRow", play, five)}
}

// boardCalls calls all functions that have two rules.
func boardCalls(across, down, x, y int64, board uint64, t impl.Turn) []called {
	excluded, one := impl.RectangleByExclusion(across, down, x, y)
	product, two := impl.CellValue(across, down, x, y)
	value, three := impl.BoardValue(across, down, board)
	turned, four := impl.TurnBoard(across, down, board, t)
	turn, five := impl.WinningRectangle(across, down, board)
	return []called{call("RectangleByExclusion", excluded, one), call("CellValue", product, two), call("BoardValue", value, three), call("TurnBoard", turned, four), call("WinningRectangle", turn, five)}
}

// ruleCalls calls all functions that have one rule and no row.
func ruleCalls(rule, coin, coins int64, mask uint32) []called {
	may, one := impl.MayTurn(rule, mask)
	turns, two := impl.TurnsAt(rule, coin)
	values, three := impl.CoinValues(rule, coins)
	return []called{call("MayTurn", may, one), call("TurnsAt", turns, two), call("CoinValues", values, three)}
}

// badRules are numbers of no rule.
func badRules() []int64 {
	return []int64{math.MinInt64, -1 << 32, -256, -6, -1, 6, 7, 8, 24, 255, 256, 260, 1 << 32, 1<<32 + 1, math.MaxInt64}
}

// ErrRange comes first, so there are rows and masks that are not fine, too.
func TestRulesThatAreNone(t *testing.T) {
	for _, bad := range badRules() {
		about := fmt.Sprint("the rule ", bad)
		var list []called
		for _, row := range []uint32{0, 1, 1 << 23, 1 << 24, 1<<32 - 1} {
			list = slices.Concat(list, rowCalls(bad, row, 1), rowCalls(bad, row, 0), rowCalls(bad, row, 1<<31), ruleCalls(bad, 0, 0, row), ruleCalls(bad, 23, 24, row), ruleCalls(bad, -1, 25, row))
		}
		for _, other := range append(rules(), badRules()...) {
			for _, turn := range []impl.Turn{{}, {Across: 1, Down: 1}, {Across: 256, Down: 1 << 31}} {
				list = slices.Concat(list, boardCalls(bad, other, 0, 0, 1, turn), boardCalls(other, bad, 0, 0, 1, turn), boardCalls(other, bad, 9, -1, 1<<63, turn))
			}
		}
		for _, c := range list {
			c.wantCode(t, about, impl.ErrRange)
		}
	}
}

func TestCoinsThatAreNone(t *testing.T) {
	for _, rule := range rules() {
		for _, coin := range []int64{math.MinInt64, -1 << 32, -24, -1, 24, 25, 31, 32, 64, 256, 1 << 32, 1<<32 + 1, math.MaxInt64} {
			turns, code := impl.TurnsAt(rule, coin)
			call("TurnsAt", turns, code).wantCode(t, fmt.Sprint(rule, coin), impl.ErrRange)
		}
		for _, coins := range []int64{math.MinInt64, -1 << 32, -24, -1, 25, 26, 32, 64, 256, 1 << 32, 1<<32 + 1, math.MaxInt64} {
			values, code := impl.CoinValues(rule, coins)
			call("CoinValues", values, code).wantCode(t, fmt.Sprint(rule, coins), impl.ErrRange)
		}
	}
}

// ErrLimit comes before ErrState and ErrNotFound, so there are masks that are no turns, and no heads but those that are too many.
func TestRowsWithTooManyCoins(t *testing.T) {
	for _, rule := range rules() {
		for bit := 24; bit < 32; bit++ {
			for _, row := range []uint32{1 << bit, 1<<bit | 1, 1<<bit | 1<<23, 1<<bit | 1<<31, 1<<32 - 1} {
				for _, mask := range []uint32{0, 1, 1 << 23, 1<<23 | 1, row, 1<<32 - 1} {
					for _, c := range rowCalls(rule, row, mask) {
						c.wantCode(t, fmt.Sprintf("the rule %d and %#x", rule, row), impl.ErrLimit)
					}
				}
			}
		}
	}
}

func TestOddBitsLimits(t *testing.T) {
	for _, n := range []int64{math.MinInt64, math.MinInt64 + 1, -1 << 32, -2, -1, 1_000_000_001, 1_000_000_002, 1<<30 + 1, 1 << 32, 1<<32 + 1, math.MaxInt64} {
		odd, code := impl.OddBits(n)
		call("OddBits", odd, code).wantCode(t, fmt.Sprint(n), impl.ErrRange)
	}
}

func TestPlacesThatAreNotOnTheBoard(t *testing.T) {
	bad := []int64{math.MinInt64, -1 << 32, -8, -1, 8, 9, 63, 64, 256, 1 << 32, 1<<32 + 1, math.MaxInt64}
	for _, pair := range rulePairs() {
		for at := range int64(8) {
			for _, other := range bad {
				for _, place := range [][2]int64{{at, other}, {other, at}, {other, other}} {
					product, one := impl.CellValue(pair[0], pair[1], place[0], place[1])
					call("CellValue", product, one).wantCode(t, fmt.Sprint(pair, place), impl.ErrRange)
					excluded, two := impl.RectangleByExclusion(pair[0], pair[1], place[0], place[1])
					call("RectangleByExclusion", excluded, two).wantCode(t, fmt.Sprint(pair, place), impl.ErrRange)
				}
			}
			for far := int64(5); far < 8; far++ {
				for _, place := range [][2]int64{{at, far}, {far, at}} {
					product, one := impl.CellValue(pair[0], pair[1], place[0], place[1])
					call("CellValue", product, one).wantCode(t, fmt.Sprint(pair, place), impl.OK)
					excluded, two := impl.RectangleByExclusion(pair[0], pair[1], place[0], place[1])
					call("RectangleByExclusion", excluded, two).wantCode(t, fmt.Sprint(pair, place), impl.ErrRange)
				}
			}
		}
	}
}

func TestCellsThatAreNotOnTheBoard(t *testing.T) {
	for bit := 8; bit < 32; bit++ {
		for _, mask := range []uint32{1 << bit, 1<<bit | 1, 1<<bit | 255, 1<<bit | 1<<31, 1<<32 - 1, ^uint32(255)} {
			for _, other := range []uint32{0, 1, 128, 255, 256, 1 << 31} {
				for _, turn := range []impl.Turn{{Across: mask, Down: other}, {Across: other, Down: mask}, {Across: mask, Down: mask}} {
					cells, code := impl.CellsOf(turn)
					call("CellsOf", cells, code).wantCode(t, fmt.Sprint(turn), impl.ErrRange)
				}
			}
		}
	}
}

// coinResults is the text of what the functions of chapter 4 return.
func coinResults() string {
	text := ""
	for _, rule := range rules() {
		for _, row := range anyRows(rule)[:24] {
			text += fmt.Sprint(rowCalls(rule, row, row&-row), ruleCalls(rule, int64(row%24), int64(row%25), row))
		}
		for _, board := range anyBoards(7)[70:] {
			turn := impl.Turn{Across: uint32(board % 8), Down: uint32(board >> 8 % 8)}
			cells, code := impl.CellsOf(turn)
			text += fmt.Sprint(boardCalls(rule, 5-rule, int64(board%5), int64(board>>3%5), board, turn), cells, code)
		}
	}
	for _, row := range anyRows(0) {
		shown, one := impl.RowText(row, 24)
		back, two := impl.ReadRow(shown)
		odd, three := impl.OddBits(int64(row))
		text += fmt.Sprint(shown, one, back, two, odd, three)
	}
	return text
}

func TestEqualCoinsHaveEqualResults(t *testing.T) {
	wantSameAtOnce(t, coinResults)
}

// wantNew checks that a change of a result changes no other one.
func wantNew[E comparable](t *testing.T, name string, call func() []E) {
	t.Helper()
	first := call()
	kept := slices.Clone(first)
	second := call()
	first = first[:cap(first)]
	for i := range first {
		first[i] = *new(E)
	}
	if third := call(); !slices.Equal(second, kept) || !slices.Equal(third, kept) {
		t.Errorf("%s: a change of one result changed another one", name)
	}
}

func TestReturnedTurnsAreNew(t *testing.T) {
	for _, rule := range rules() {
		wantNew(t, "TurnsAt", func() []uint32 { list, _ := impl.TurnsAt(rule, 23); return list })
		wantNew(t, "CoinValues", func() []impl.Nimber { list, _ := impl.CoinValues(rule, 24); return list })
		wantNew(t, "PlayRow", func() []uint32 { list, _ := impl.PlayRow(rule, 0xabcdef); return list })
	}
}

func TestBoardsLeaveNoGoroutines(t *testing.T) {
	before := runtime.NumGoroutine()
	for _, pair := range rulePairs() {
		for _, board := range anyBoards(5) {
			impl.BoardValue(pair[0], pair[1], board)
			impl.WinningRectangle(pair[0], pair[1], board)
		}
	}
	wantJoined(t, before)
}
