package tests

import (
	"math/bits"
	"slices"
	"strconv"
	"strings"
	"testing"

	"loop.example/g01307/impl"
)

// Promise 10: behind a winning turn no turn wins, values are the least numbers that are not excluded, and rows are played to the end.

func TestMayTurn(t *testing.T) {
	masks := []uint32{0, 1 << 24, 1 << 25, 1 << 31, 1<<32 - 1, 1<<24 - 1, 1<<24 | 1, 1<<24 | 1<<23, 1<<31 | 1, 3 << 23, 7 << 22, 3 << 30, 7 << 29, 1<<31 | 3, 1<<25 - 1}
	for mask := range uint32(1 << 11) {
		masks = append(masks, mask, mask<<13, mask<<16, mask<<21)
	}
	for _, rule := range rules() {
		list := slices.Clone(masks)
		for _, coin := range []int{2, 12, 22, 23} {
			for _, turn := range ruleTurns()[rule][coin] {
				list = append(list, turn, turn^1, turn^1<<11, turn^1<<23, turn|1<<24, turn|1<<31)
			}
		}
		for _, mask := range list {
			want := mask < 1<<24 && isTurnByRule(rule, mask)
			if may, code := impl.MayTurn(rule, mask); may != want || code != impl.OK {
				t.Errorf("MayTurn(%d, %#x) = %v, %d", rule, mask, may, code)
			}
		}
	}
}

func TestTurnsAt(t *testing.T) {
	for _, rule := range rules() {
		for coin, want := range ruleTurns()[rule] {
			if got, code := impl.TurnsAt(rule, int64(coin)); !slices.Equal(got, want) || code != impl.OK {
				t.Errorf("TurnsAt(%d, %d) = %v, %d, want %v", rule, coin, got, code, want)
			}
		}
	}
}

func TestTurnsAtByHand(t *testing.T) {
	for _, c := range []struct {
		rule, coin int64
		want       []uint32
	}{
		{impl.RlSingle, 0, []uint32{1}},
		{impl.RlSingle, 23, []uint32{1 << 23}},
		{impl.RlTurtles, 0, []uint32{1}},
		{impl.RlTurtles, 2, []uint32{4, 5, 6}},
		{impl.RlTwins, 0, nil},
		{impl.RlTwins, 3, []uint32{9, 10, 12}},
		{impl.RlMock, 0, []uint32{1}},
		{impl.RlMock, 3, []uint32{8, 9, 10, 11, 12, 13, 14}},
		{impl.RlRuler, 0, []uint32{1}},
		{impl.RlRuler, 3, []uint32{8, 12, 14, 15}},
		{impl.RlTriplets, 0, nil},
		{impl.RlTriplets, 1, nil},
		{impl.RlTriplets, 2, []uint32{7}},
		{impl.RlTriplets, 4, []uint32{19, 21, 22, 25, 26, 28}},
	} {
		if got, code := impl.TurnsAt(c.rule, c.coin); !slices.Equal(got, c.want) || code != impl.OK {
			t.Errorf("TurnsAt(%d, %d) = %v, %d, want %v", c.rule, c.coin, got, code, c.want)
		}
	}
}

func TestCoinValues(t *testing.T) {
	for _, rule := range rules() {
		var want []impl.Nimber
		for count := range 25 {
			if got, code := impl.CoinValues(rule, int64(count)); !slices.Equal(got, want) || code != impl.OK {
				t.Errorf("CoinValues(%d, %d) = %v, %d, want %v", rule, count, got, code, want)
			}
			want = append(want, knownValue(rule, count))
		}
	}
}

// The value of a coin, the last one also, is not among the sums of the others of its turns, but all lesser numbers are.
func TestValuesOfCoinsAreTheLeastOnes(t *testing.T) {
	for _, rule := range rules() {
		values, _ := impl.CoinValues(rule, impl.MaxCoins)
		for coin, value := range values {
			excluded := map[impl.Nimber]bool{}
			for _, turn := range ruleTurns()[rule][coin] {
				sum := impl.Nimber(0)
				for other := range coin {
					if turn>>other&1 == 1 {
						sum ^= values[other]
					}
				}
				excluded[sum] = true
			}
			if want := leastExcluded(excluded); value != want {
				t.Errorf("the coin %d has by the rule %d the value %d, want %d", coin, rule, value, want)
			}
		}
	}
}

// wantWinning checks both functions that look for winning turns.
func wantWinning(t *testing.T, rule int64, row uint32, wins []uint32) {
	t.Helper()
	want, wantCode := uint32(0), int64(impl.ErrNotFound)
	if len(wins) > 0 {
		want, wantCode = wins[0], impl.OK
	}
	if turn, code := impl.WinningTurn(rule, row); turn != want || code != wantCode {
		t.Fatalf("WinningTurn(%d, %#x) = %#x, %d, want %#x, %d", rule, row, turn, code, want, wantCode)
	}
	if count, code := impl.CountWinningTurns(rule, row); count != int64(len(wins)) || code != impl.OK {
		t.Fatalf("CountWinningTurns(%d, %#x) = %d, %d, want %d", rule, row, count, code, len(wins))
	}
}

func TestRowsAreThoseOfPlay(t *testing.T) {
	for _, rule := range rules() {
		for state, want := range rowValuesByPlay(rule, 10) {
			row := uint32(state)
			if got, code := impl.RowValue(rule, row); got != want || code != impl.OK {
				t.Fatalf("RowValue(%d, %#x) = %d, %d, want %d", rule, row, got, code, want)
			}
		}
	}
}

func TestWinningTurnsAreThoseOfPlay(t *testing.T) {
	for _, rule := range rules() {
		values := rowValuesByPlay(rule, 10)
		for state, value := range values {
			var wins []uint32
			for _, turn := range turnsFrom(rule, uint32(state)) {
				if values[state^int(turn)] == 0 {
					wins = append(wins, turn)
				}
			}
			if (len(wins) > 0) != (value != 0) {
				t.Fatalf("the row %#x of the rule %d has the value %d, and %d turns win", state, rule, value, len(wins))
			}
			wantWinning(t, rule, uint32(state), wins)
		}
	}
}

func TestBehindAWinningTurnNoTurnWins(t *testing.T) {
	for _, rule := range rules() {
		for _, row := range anyRows(rule) {
			value := knownSum(rule, row)
			if got, code := impl.RowValue(rule, row); got != value || code != impl.OK {
				t.Fatalf("RowValue(%d, %#x) = %d, %d, want %d", rule, row, got, code, value)
			}
			var wins []uint32
			for _, turn := range turnsFrom(rule, row) {
				if knownSum(rule, row^turn) == 0 {
					wins = append(wins, turn)
				}
			}
			if (len(wins) > 0) != (value != 0) {
				t.Fatalf("the row %#x of the rule %d has the value %d, and %d turns win", row, rule, value, len(wins))
			}
			wantWinning(t, rule, row, wins)
			for _, turn := range wins[:min(len(wins), 5)] {
				next, code := impl.TurnRow(rule, row, turn)
				if next != row^turn || code != impl.OK {
					t.Fatalf("TurnRow(%d, %#x, %#x) = %#x, %d", rule, row, turn, next, code)
				}
				wantWinning(t, rule, next, nil)
			}
		}
	}
}

// The last coin alone wins in as many ways as its turns leave nothing of value.
func TestTheLastCoin(t *testing.T) {
	last := uint32(1) << 23
	for _, rule := range rules() {
		want := knownValue(rule, 23)
		if value, code := impl.RowValue(rule, last); value != want || code != impl.OK {
			t.Errorf("RowValue of the last coin by the rule %d = %d, %d, want %d", rule, value, code, want)
		}
		turn, code := impl.WinningTurn(rule, last)
		if code != impl.OK || turn>>23 != 1 || knownSum(rule, last^turn) != 0 {
			t.Errorf("WinningTurn of the last coin by the rule %d = %#x, %d", rule, turn, code)
		}
	}
	for rule, want := range map[int64]uint32{impl.RlSingle: last, impl.RlTurtles: last, impl.RlTwins: last | 1, impl.RlMock: last, impl.RlRuler: last, impl.RlTriplets: last | 3} {
		if turn, code := impl.WinningTurn(rule, last); turn != want || code != impl.OK {
			t.Errorf("WinningTurn of the last coin by the rule %d = %#x, %d, want %#x", rule, turn, code, want)
		}
	}
}

func TestWinningTurnsByHand(t *testing.T) {
	for _, c := range []struct {
		rule  int64
		text  string
		turn  string
		count int64
	}{
		{impl.RlSingle, "H", "H", 1},
		{impl.RlSingle, "THTHTH", "TH", 3},
		{impl.RlTurtles, "TTTH", "TTTH", 1},
		{impl.RlTurtles, "HHTH", "TTHH", 1}, // 1, 2 and 4 sum up to 7: instead of 4 there has to be 3
		{impl.RlTwins, "TH", "HH", 1},
		{impl.RlTwins, "HH", "HH", 1},
		{impl.RlMock, "TTTHH", "TTTHH", 1},
		{impl.RlMock, "HHTTH", "HHTTH", 2}, // 1 and 2 sum up to 3, and so do 4 and 7
		{impl.RlMock, "TTHHH", "HHTTH", 2}, // the lesser one wins, although the other one leaves no heads
		{impl.RlRuler, "TTTTTTTH", "TTTTTTTH", 1},
		{impl.RlRuler, "THTH", "HHHH", 1},
		{impl.RlTriplets, "TTH", "HHH", 1},
		{impl.RlTriplets, "TTTTH", "HHTTH", 1},
	} {
		row, _ := impl.ReadRow(c.text)
		turn, code := impl.WinningTurn(c.rule, row)
		text, _ := impl.RowText(turn, int64(bits.Len32(turn)))
		count, counted := impl.CountWinningTurns(c.rule, row)
		if text != c.turn || code != impl.OK || count != c.count || counted != impl.OK {
			t.Errorf("the rule %d and %s: WinningTurn %s, %d, and %d, %d of them, want %s, %d", c.rule, c.text, text, code, count, counted, c.turn, c.count)
		}
	}
}

// Rows with heads from which there is no turn are lost, as those with no heads are.
func TestRowsWithNoTurn(t *testing.T) {
	none := map[int64][]uint32{impl.RlTwins: {0, 1}, impl.RlTriplets: {0, 1, 2, 3}}
	for _, rule := range rules() {
		for row := range uint32(64) {
			stuck := row == 0 || slices.Contains(none[rule], row)
			play, code := impl.PlayRow(rule, row)
			if (len(play) == 0) != stuck || code != impl.OK {
				t.Errorf("PlayRow(%d, %#x) = %v, %d", rule, row, play, code)
			}
			if !stuck {
				continue
			}
			if value, code := impl.RowValue(rule, row); value != 0 || code != impl.OK {
				t.Errorf("RowValue(%d, %#x) = %d, %d", rule, row, value, code)
			}
			wantWinning(t, rule, row, nil)
		}
	}
}

func TestTurnRow(t *testing.T) {
	for _, rule := range rules() {
		for row := range uint32(64) {
			for mask := range uint32(256) {
				checkTurnRow(t, rule, row, mask)
			}
		}
		for _, row := range anyRows(rule)[:24] {
			for _, coin := range []int{0, 1, 2, 12, 23} {
				for _, turn := range ruleTurns()[rule][coin] {
					checkTurnRow(t, rule, row, turn)
					checkTurnRow(t, rule, row, turn^2)
				}
			}
			for _, mask := range []uint32{0, 1 << 24, 1<<24 | 1<<23, 3 << 23, 1 << 31, 1<<31 | 1, 1<<32 - 1, 1<<24 - 1} {
				checkTurnRow(t, rule, row, mask)
			}
		}
	}
}

// checkTurnRow expects a row that there is, but any mask.
func checkTurnRow(t *testing.T, rule int64, row, mask uint32) {
	t.Helper()
	want, wantCode := row^mask, int64(impl.OK)
	if mask >= 1<<24 || !isTurnByRule(rule, mask) || row>>(bits.Len32(mask)-1)&1 == 0 {
		want, wantCode = 0, impl.ErrState
	}
	if got, code := impl.TurnRow(rule, row, mask); got != want || code != wantCode {
		t.Fatalf("TurnRow(%d, %#x, %#x) = %#x, %d, want %#x, %d", rule, row, mask, got, code, want, wantCode)
	}
}

// checkPlay checks the turns, that they can be made one by one, and who makes the last one.
func checkPlay(t *testing.T, rule int64, row uint32) int {
	t.Helper()
	play, code := impl.PlayRow(rule, row)
	if want := wantedPlay(rule, row); !slices.Equal(play, want) || code != impl.OK {
		t.Fatalf("PlayRow(%d, %#x) = %v, %d, want %v", rule, row, play, code, want)
	}
	if (len(play)%2 == 1) != (knownSum(rule, row) != 0) {
		t.Fatalf("PlayRow(%d, %#x) has %d turns, but the value of the row is %d", rule, row, len(play), knownSum(rule, row))
	}
	for _, turn := range play {
		next, code := impl.TurnRow(rule, row, turn)
		if next != row^turn || code != impl.OK {
			t.Fatalf("TurnRow(%d, %#x, %#x) = %#x, %d, in a play", rule, row, turn, next, code)
		}
		row = next
	}
	if turns := turnsFrom(rule, row); len(turns) != 0 {
		t.Fatalf("a play by the rule %d ends at the row %#x, which has %d turns", rule, row, len(turns))
	}
	return len(play)
}

func TestPlayRow(t *testing.T) {
	for _, rule := range rules() {
		for row := range uint32(1 << 9) {
			checkPlay(t, rule, row)
		}
		for _, row := range anyRows(rule)[:40] {
			checkPlay(t, rule, row)
		}
	}
}

// These rows have the longest plays of their rules, of all rows that there are; so all plays keep to 300 turns.
func TestTheLongestPlays(t *testing.T) {
	for _, c := range []struct {
		rule int64
		row  uint32
		want int
	}{
		{impl.RlSingle, 1<<24 - 1, 24},
		{impl.RlTurtles, 16645847, 31},
		{impl.RlTwins, 1569772, 27},
		{impl.RlMock, 11534331, 53},
		{impl.RlRuler, 11894766, 157},
		{impl.RlRuler, 11894769, 157},
		{impl.RlTriplets, 14417900, 47},
	} {
		if turns := checkPlay(t, c.rule, c.row); turns != c.want {
			t.Errorf("PlayRow(%d, %#x) has %d turns, want %d", c.rule, c.row, turns, c.want)
		}
	}
}

// With the value 0 the least turn of the least greatest coin is made, and not one of another coin.
func TestPlayRowByHand(t *testing.T) {
	for _, c := range []struct {
		rule int64
		text string
		want []uint32
	}{
		{impl.RlSingle, "HTH", []uint32{1, 4}},
		{impl.RlTurtles, "HTH", []uint32{5}},
		{impl.RlTurtles, "HHH", []uint32{1, 6}},
		{impl.RlTwins, "H", nil},
		{impl.RlTwins, "HTH", []uint32{5}},
		{impl.RlTwins, "THHH", []uint32{3, 12}},
		{impl.RlRuler, "HTH", []uint32{1, 4}},
		{impl.RlRuler, "HHHH", []uint32{15}},
		{impl.RlRuler, "HHHT", []uint32{2, 1, 4}}, // the second turn is one of the other player, for whom none wins
		{impl.RlTriplets, "HHT", nil},
		{impl.RlTriplets, "TTH", []uint32{7}},
		{impl.RlMock, "", nil},
	} {
		row, _ := impl.ReadRow(c.text)
		if got, code := impl.PlayRow(c.rule, row); !slices.Equal(got, c.want) || code != impl.OK {
			t.Errorf("PlayRow(%d, %s) = %v, %d, want %v", c.rule, c.text, got, code, c.want)
		}
	}
}

func TestOddBits(t *testing.T) {
	list := []int64{1_000_000_000, 999_999_999, 1 << 29, 1<<29 - 1, 1<<29 + 1, 536870911, 715827882}
	for n := range int64(5000) {
		list = append(list, n, 1_000_000_000-n*n)
	}
	for _, n := range list {
		want := strings.Count(strconv.FormatInt(n, 2), "1")%2 == 1
		if odd, code := impl.OddBits(n); odd != want || code != impl.OK {
			t.Errorf("OddBits(%d) = %v, %d", n, odd, code)
		}
	}
}

func TestValuesOfMockHaveOddBits(t *testing.T) {
	values, _ := impl.CoinValues(impl.RlMock, impl.MaxCoins)
	var odd []impl.Nimber
	for n := int64(0); len(odd) < impl.MaxCoins; n++ {
		if is, code := impl.OddBits(n); is && code == impl.OK {
			odd = append(odd, impl.Nimber(n))
		}
	}
	if !slices.Equal(values, odd) {
		t.Errorf("CoinValues of RlMock = %v, but the numbers with odd bits are %v", values, odd)
	}
}
