package tests

import (
	"fmt"
	"math"
	"slices"
	"testing"

	"loop.example/g01307/impl"
)

// Promise 9: what a period says goes on, and heaps have the least value that is not excluded.

func TestTakeValues(t *testing.T) {
	for _, takes := range takesLists() {
		want := takeValues(takes, impl.MaxHeap+1)
		for _, heap := range []int{0, 1, 2, 3, 7, 62, 63, 64, 65, 127, 128, 499, 500} {
			if got, code := impl.TakeValues(takes, int64(heap)); !slices.Equal(got, want[:heap+1]) || code != impl.OK {
				t.Fatalf("TakeValues(%#x, %d) = %v, %d, want %v", takes, heap, got, code, want[:heap+1])
			}
		}
	}
}

func TestTakeValuesByHand(t *testing.T) {
	nothing, _ := impl.TakeValues(0, impl.MaxHeap)
	most, _ := impl.TakeValues(takesOf(63), impl.MaxHeap)
	all, _ := impl.TakeValues(^uint64(1), impl.MaxHeap)
	two, _ := impl.TakeValues(takesOf(2), impl.MaxHeap)
	for heap := range impl.MaxHeap + 1 {
		if nothing[heap] != 0 || most[heap] != impl.Nimber(heap/63%2) || all[heap] != impl.Nimber(heap%64) || two[heap] != impl.Nimber(heap/2%2) {
			t.Errorf("the heap %d has the values %d, %d, %d and %d", heap, nothing[heap], most[heap], all[heap], two[heap])
		}
	}
}

func heapsLists(d *dice) [][]int64 {
	list := [][]int64{nil, {0}, {impl.MaxHeap}, {0, 0}, {impl.MaxHeap, impl.MaxHeap}, {63, 64, 1}, make([]int64, impl.MaxHeaps)}
	for _, count := range []int{1, 2, 3, 5, impl.MaxHeaps} {
		great, small := make([]int64, count), make([]int64, count)
		for i := range great {
			great[i], small[i] = int64(d.next(impl.MaxHeap+1)), int64(d.next(9))
		}
		list = append(list, great, small)
	}
	return list
}

func TestTakeMoves(t *testing.T) {
	d := dice(41)
	for _, takes := range takesLists() {
		values := takeValues(takes, impl.MaxHeap+1)
		for _, heaps := range heapsLists(&d) {
			sum := sumOf(values, heaps)
			var want [][2]int64
			for i, heap := range heaps {
				for to := range heap {
					if n := heap - to; n <= 63 && takes>>n%2 == 1 && values[to] == sum^values[heap] {
						want = append(want, [2]int64{int64(i), to})
					}
				}
			}
			moves, code := impl.TakeMoves(takes, heaps)
			if !slices.Equal(moves, want) || code != impl.OK || (len(moves) == 0) != (sum == 0) {
				t.Fatalf("TakeMoves(%#x, %v) = %v, %d, want %v", takes, heaps, moves, code, want)
			}
			for _, move := range moves[:min(len(moves), 2)] { // behind the others the sum is 0, too, as they are the wanted ones
				next := slices.Clone(heaps)
				next[move[0]] = move[1]
				if again, code := impl.TakeMoves(takes, next); len(again) != 0 || code != impl.OK {
					t.Fatalf("TakeMoves(%#x, %v) = %v, %d, behind a winning move", takes, next, again, code)
				}
			}
		}
	}
}

func TestTakeMovesByHand(t *testing.T) {
	for _, c := range []struct {
		takes uint64
		heaps []int64
		want  [][2]int64
	}{
		{takesOf(1, 2, 3), []int64{5, 2}, [][2]int64{{0, 2}, {1, 1}}},
		{takesOf(1, 2, 3), []int64{4, 8, 0}, nil},
		{takesOf(1, 2, 3), []int64{7}, [][2]int64{{0, 4}}},
		{takesOf(1, 3, 5), []int64{7}, [][2]int64{{0, 2}, {0, 4}, {0, 6}}}, // several moves from one heap
		{takesOf(1, 3, 5), []int64{2, 5}, [][2]int64{{0, 1}, {1, 0}, {1, 2}, {1, 4}}},
		{takesOf(63), []int64{63, 62, 126}, [][2]int64{{0, 0}, {2, 63}}},
		{takesOf(63), []int64{62, 64}, [][2]int64{{1, 1}}},
		{0, []int64{5, 500}, nil},
		{^uint64(1), []int64{500, 1}, [][2]int64{{0, 449}}},
	} {
		if got, code := impl.TakeMoves(c.takes, c.heaps); !slices.Equal(got, c.want) && len(got)+len(c.want) > 0 || code != impl.OK {
			t.Errorf("TakeMoves(%#x, %v) = %v, %d, want %v", c.takes, c.heaps, got, code, c.want)
		}
	}
}

// The moves of one heap are those of the game that has a place for each lesser heap.
func TestHeapsAreGames(t *testing.T) {
	for _, takes := range takesLists() {
		g := make(impl.Game, impl.MaxPlaces)
		for place := range g {
			for to := range place {
				if takes>>(place-to)%2 == 1 {
					g[place] = append(g[place], int8(to))
				}
			}
		}
		values, _ := impl.ValuesOf(g)
		if same, code := impl.TakeValues(takes, impl.MaxPlaces-1); !slices.Equal(same, values) || code != impl.OK {
			t.Errorf("TakeValues(%#x, 59) = %v, %d, but the game has %v", takes, same, code, values)
		}
		for _, places := range [][]int64{{59}, {59, 58}, {33, 20, 47}, {5, 0, 5, 1}} {
			want, _ := impl.WinningMoves(g, places)
			if got, code := impl.TakeMoves(takes, places); !slices.Equal(got, want) || code != impl.OK {
				t.Errorf("TakeMoves(%#x, %v) = %v, %d, but the game has %v", takes, places, got, code, want)
			}
		}
	}
}

// Of these takes the first ones have a period that reaches MaxHeap exactly, and the others one that is just behind it.
func takesAtTheLimit() []uint64 {
	return []uint64{0x8040008000003000, 0x200008800010000, 0x600400000100, 0x400040000001000, 0x8002404000040000, 0x204800000108, 0x10040000000008, 0x8000000408000000}
}

func TestTakePeriod(t *testing.T) {
	for _, takes := range append(takesLists(), takesAtTheLimit()...) {
		if takes == 0 {
			continue
		}
		wantStart, wantPeriod, found := periodOf(takes, impl.MaxHeap)
		wantCode := int64(impl.OK)
		if !found {
			wantCode = impl.ErrNotFound
		}
		if start, period, code := impl.TakePeriod(takes); start != wantStart || period != wantPeriod || code != wantCode {
			t.Errorf("TakePeriod(%#x) = %d, %d, %d, want %d, %d, %d", takes, start, period, code, wantStart, wantPeriod, wantCode)
		}
	}
}

func TestPeriodsGoOn(t *testing.T) {
	found := 0
	for _, takes := range append(takesLists(), takesAtTheLimit()...) {
		start, period, code := impl.TakePeriod(takes)
		if code != impl.OK {
			continue
		}
		found++
		values, _ := impl.TakeValues(takes, impl.MaxHeap)
		if again, code := impl.RepeatsFrom(values, start, period); !again || code != impl.OK {
			t.Errorf("the values of %#x do not repeat from %d on by %d: %v, %d", takes, start, period, again, code)
		}
		greater := takeValues(takes, 4*impl.MaxHeap)
		if s := greater[start:]; !slices.Equal(s[:len(s)-int(period)], s[period:]) {
			t.Errorf("the values of %#x do not repeat behind MaxHeap from %d on by %d", takes, start, period)
		}
	}
	if found < 20 {
		t.Errorf("there are %d periods alone", found)
	}
}

func TestTakePeriodByHand(t *testing.T) {
	for takes, want := range map[uint64][3]int64{
		takesOf(1):          {0, 2, impl.OK},
		takesOf(2):          {0, 4, impl.OK},
		takesOf(63):         {0, 126, impl.OK},
		takesOf(1, 2, 3):    {0, 4, impl.OK},
		takesOf(1, 3, 4):    {0, 7, impl.OK},
		takesOf(1, 63):      {0, 2, impl.OK},
		takesOf(2, 5, 7):    {0, 22, impl.OK},
		takesOf(2, 4, 7):    {8, 3, impl.OK},
		^uint64(1):          {0, 64, impl.OK},
		0x8040008000003000:  {344, 93, impl.OK}, // 344 + 93 + 63 is MaxHeap
		0x600400000100:      {321, 133, impl.OK},
		0x8002404000040000:  {0, 0, impl.ErrNotFound}, // 410 + 28 + 63 would be greater by 1
		0x204800000108:      {0, 0, impl.ErrNotFound},
		0:                   {0, 0, impl.ErrRange},
		1:                   {0, 0, impl.ErrRange},
		takesOf(0, 1, 2, 3): {0, 0, impl.ErrRange},
		math.MaxUint64:      {0, 0, impl.ErrRange},
		0x204800000109:      {0, 0, impl.ErrRange},
	} {
		if start, period, code := impl.TakePeriod(takes); [3]int64{start, period, code} != want {
			t.Errorf("TakePeriod(%#x) = %d, %d, %d, want %v", takes, start, period, code, want)
		}
	}
}

func TestRepeatsFrom(t *testing.T) {
	for _, length := range []int{0, 1, 2, 3, 4, 5, 6} {
		for _, list := range listsOf(length, 2) {
			for start := int64(-1); start <= 8; start++ {
				for period := int64(-1); period <= 8; period++ {
					want, wantCode := true, int64(impl.OK)
					if start < 0 || period < 1 || start+period > int64(length) {
						want, wantCode = false, impl.ErrRange
					}
					for i := start; want && i+period < int64(length); i++ {
						want = list[i] == list[i+period]
					}
					if got, code := impl.RepeatsFrom(list, start, period); got != want || code != wantCode {
						t.Fatalf("RepeatsFrom(%v, %d, %d) = %v, %d, want %v, %d", list, start, period, got, code, want, wantCode)
					}
				}
			}
		}
	}
}

func TestOctalValues(t *testing.T) {
	for _, digits := range octalRules() {
		want := octalValues(digits, 200)
		for _, heap := range []int{0, 1, 2, 8, 9, 31, 199, 200} {
			if got, code := impl.OctalValues(digits, int64(heap)); !slices.Equal(got, want[:heap+1]) || code != impl.OK {
				t.Fatalf("OctalValues(%v, %d) = %v, %d, want %v", digits, heap, got, code, want[:heap+1])
			}
		}
	}
}

func TestOctalValuesByHand(t *testing.T) {
	for _, c := range []struct {
		digits []uint8
		want   []impl.Nimber
	}{
		{[]uint8{7, 7}, []impl.Nimber{0, 1, 2, 3, 1, 4, 3, 2, 1, 4, 2, 6, 4, 1, 2, 7, 1, 4, 3, 2, 1, 4, 6, 7}},
		{[]uint8{0, 7}, []impl.Nimber{0, 0, 1, 1, 2, 0, 3, 1, 1, 0, 3, 3, 2, 2, 4, 0, 5, 2, 2, 3, 3, 0, 1, 1, 3, 0, 2, 1, 1, 0, 4, 5, 2, 7, 4}},
		{[]uint8{1, 3, 7}, []impl.Nimber{0, 1, 1, 2, 0, 3, 1, 1, 0, 3, 3, 2, 2, 4, 0, 5}},
		{[]uint8{3, 3, 3}, []impl.Nimber{0, 1, 2, 3, 0, 1, 2, 3, 0}},
		{[]uint8{0, 0, 3}, []impl.Nimber{0, 0, 0, 1, 1, 1, 0, 0, 0, 1, 1, 1, 0}},
		{[]uint8{1}, []impl.Nimber{0, 1, 0, 0, 0}},
		{[]uint8{2}, []impl.Nimber{0, 0, 1, 0, 1}},
		{[]uint8{4}, []impl.Nimber{0, 0, 0, 1, 1, 2, 0}},
		{[]uint8{0}, []impl.Nimber{0, 0, 0, 0}},
	} {
		if got, code := impl.OctalValues(c.digits, int64(len(c.want)-1)); !slices.Equal(got, c.want) || code != impl.OK {
			t.Errorf("OctalValues of %v = %v, %d, want %v", c.digits, got, code, c.want)
		}
	}
}

// A heap beside others has the value with which it is lost for who is to move.
func TestOctalValuesAreThoseOfPlay(t *testing.T) {
	for _, digits := range octalRules() {
		values, _ := impl.OctalValues(digits, 10)
		player := octalPlayer{digits: digits, lost: map[string]bool{}}
		for heap, value := range values {
			for beside := range int(value) + 1 {
				if lost := player.isLost([]int64{int64(heap)}, beside); lost != (beside == int(value)) {
					t.Fatalf("the heap %d of %v has the value %d, but with %d beside it is lost: %v", heap, digits, value, beside, lost)
				}
			}
		}
	}
}

func TestOctalMoves(t *testing.T) {
	for _, digits := range octalRules() {
		for _, heap := range []int{0, 1, 2, 3, 4, 5, 6, 7, 8, 9, 10, 16, 17, 18, 40, 41, 199, 200} {
			want := octalLeft(digits, heap)
			if got, code := impl.OctalMoves(digits, int64(heap)); !slices.Equal(got, want) || code != impl.OK {
				t.Fatalf("OctalMoves(%v, %d) = %v, %d, want %v", digits, heap, got, code, want)
			}
		}
	}
}

func TestOctalMovesByHand(t *testing.T) {
	for _, c := range []struct {
		digits []uint8
		heap   int64
		want   [][2]int64
	}{
		{[]uint8{7, 7}, 0, nil},
		{[]uint8{7, 7}, 1, [][2]int64{{0, 0}}},
		{[]uint8{7, 7}, 3, [][2]int64{{0, 1}, {0, 2}, {1, 1}}}, // two equal heaps
		{[]uint8{7, 7}, 5, [][2]int64{{0, 3}, {0, 4}, {1, 2}, {1, 3}, {2, 2}}},
		{[]uint8{0, 7}, 1, nil},
		{[]uint8{0, 7}, 2, [][2]int64{{0, 0}}},
		{[]uint8{0, 0, 0, 0, 0, 0, 0, 1}, 8, [][2]int64{{0, 0}}},
		{[]uint8{0, 0, 0, 0, 0, 0, 0, 7}, 7, nil},
		{[]uint8{0, 0, 0, 0, 0, 0, 0, 4}, 12, [][2]int64{{1, 3}, {2, 2}}},
		{[]uint8{1}, 2, nil},
		{[]uint8{2}, 1, nil},
		{[]uint8{2}, 2, [][2]int64{{0, 1}}},
		{[]uint8{4}, 1, nil},
		{[]uint8{4}, 2, nil},
		{[]uint8{4}, 3, [][2]int64{{1, 1}}},
		{[]uint8{2, 1}, 2, [][2]int64{{0, 0}, {0, 1}}}, // nothing is left by the second digit
		{[]uint8{2, 2, 2}, 200, [][2]int64{{0, 197}, {0, 198}, {0, 199}}},
	} {
		if got, code := impl.OctalMoves(c.digits, c.heap); !slices.Equal(got, c.want) || code != impl.OK {
			t.Errorf("OctalMoves(%v, %d) = %v, %d, want %v", c.digits, c.heap, got, code, c.want)
		}
	}
}

// The value is the least number that is not excluded by what may be left, as the program itself tells both.
func TestOctalValuesAndMoves(t *testing.T) {
	for _, digits := range octalRules() {
		values, _ := impl.OctalValues(digits, 200)
		for heap, value := range values {
			moves, _ := impl.OctalMoves(digits, int64(heap))
			list := make([]impl.Nimber, len(moves))
			for i, left := range moves {
				list[i] = values[left[0]] ^ values[left[1]]
			}
			if least, code := impl.ExcludedBy(list); least != int64(value) || code != impl.OK {
				t.Fatalf("the heap %d of %v has the value %d, but %d, %d is not excluded", heap, digits, value, least, code)
			}
		}
	}
}

func TestRulesThatMayDoMoreLeaveMore(t *testing.T) {
	for _, digits := range octalRules() {
		for i := range impl.MaxDigits {
			for _, bit := range []uint8{1, 2, 4} {
				more := append(slices.Clone(digits), make([]uint8, impl.MaxDigits-len(digits))...)
				more[i] |= bit
				for _, heap := range []int64{1, 5, 9, 12, 30} {
					some, _ := impl.OctalMoves(digits, heap)
					others, code := impl.OctalMoves(more, heap)
					isNew := func(left [2]int64) bool { return !slices.Contains(others, left) }
					if slices.ContainsFunc(some, isNew) || code != impl.OK || len(others) < len(some) {
						t.Fatalf("%v leaves %v of %d, but %v leaves %v, %d", digits, some, heap, more, others, code)
					}
				}
			}
		}
	}
}

// Digits that are 0 behind the others change nothing.
func TestZerosBehindOctalDigits(t *testing.T) {
	for _, digits := range octalRules() {
		short, _ := impl.OctalValues(digits, 60)
		longer := append(slices.Clone(digits), make([]uint8, impl.MaxDigits-len(digits))...)
		if long, code := impl.OctalValues(longer, 60); fmt.Sprint(short) != fmt.Sprint(long) || code != impl.OK {
			t.Errorf("OctalValues of %v is %v, but %v, %d with zeros behind", digits, short, long, code)
		}
	}
}
