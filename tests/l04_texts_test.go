package tests

import (
	"fmt"
	"math"
	"strconv"
	"strings"
	"testing"

	"loop.example/g01307/impl"
)

// The texts of rows, of which promise 10 needs that they are read.

// rowText looks at each coin.
func rowText(row uint32, coins int) string {
	text := ""
	for coin := range coins {
		text += string("TH"[row>>coin&1])
	}
	return text
}

func TestTextsOfRows(t *testing.T) {
	for coins := range 25 {
		for _, bits := range append(anyRows(impl.RlMock), 0x123456, 0xfedcba) {
			row := bits & (1<<coins - 1)
			want := rowText(row, coins)
			if got, code := impl.RowText(row, int64(coins)); got != want || code != impl.OK {
				t.Errorf("RowText(%#x, %d) = %q, %d, want %q", row, coins, got, code, want)
			}
			if back, code := impl.ReadRow(want); back != row || code != impl.OK {
				t.Errorf("ReadRow(%q) = %#x, %d, want %#x", want, back, code, row)
			}
		}
	}
}

func TestTextsOfSmallRows(t *testing.T) {
	for coins := range 9 {
		for row := range uint32(1 << coins) {
			text, code := impl.RowText(row, int64(coins))
			if text != rowText(row, coins) || code != impl.OK {
				t.Errorf("RowText(%#x, %d) = %q, %d", row, coins, text, code)
			}
			if back, code := impl.ReadRow(text); back != row || code != impl.OK {
				t.Errorf("ReadRow(%q) = %#x, %d, want %#x", text, back, code, row)
			}
		}
	}
}

func TestTextsOfRowsByHand(t *testing.T) {
	for text, want := range map[string]uint32{
		"":                              0,
		"T":                             0,
		"H":                             1,
		"TH":                            2,
		"HT":                            1,
		"HTH":                           5,
		"TTTTHTTT":                      16,
		strings.Repeat("T", 24):         0,
		strings.Repeat("H", 24):         1<<24 - 1,
		strings.Repeat("T", 23) + "H":   1 << 23,
		"H" + strings.Repeat("T", 23):   1,
		"TH" + strings.Repeat("HT", 11): 0x555556,
	} {
		if row, code := impl.ReadRow(text); row != want || code != impl.OK {
			t.Errorf("ReadRow(%q) = %#x, %d, want %#x", text, row, code, want)
		}
		if back, code := impl.RowText(want, int64(len(text))); back != text || code != impl.OK {
			t.Errorf("RowText(%#x, %d) = %q, %d, want %q", want, len(text), back, code, text)
		}
	}
}

func TestTextsOfNoRow(t *testing.T) {
	bad := []string{
		" ", "h", "t", "X", "0", "1", "-", "*", "\x00", "\n", "\xff", "\u0397", "\u0422", "\uff28", "HH TT", "H,T", "H ", " H", "HT\n", "\nHT", "H\tT", "HTh", "tTH", "HtH", "HTHX", "XHTH", "HTXHT", "H0T", "HT\x00", "HT\xff", "\ufeffHT", "\"HT\"", "[HT]", "H\u0301", "I", "G", "S", "U",
		strings.Repeat("H", 25), strings.Repeat("T", 25), strings.Repeat("T", 24) + "H", strings.Repeat("T", 24) + " ", strings.Repeat("T", 24) + "\n", strings.Repeat("T", 23) + "X", "X" + strings.Repeat("T", 23), strings.Repeat("T", 32), strings.Repeat("T", 31) + "H", strings.Repeat("HT", 16), strings.Repeat("T", 256), strings.Repeat("T", 257), strings.Repeat("H", 280),
	}
	for at := range 24 {
		bad = append(bad, strings.Repeat("H", at)+"?"+strings.Repeat("T", 23-at))
	}
	for _, text := range badNims() {
		if strings.Trim(text, "HT") != "" {
			bad = append(bad, text, "H"+text, text+"T")
		}
	}
	for _, part := range []string{"H", "T", "HT", " ", "\x00", "\xff", "X"} {
		bad = append(bad, strings.Repeat(part, 1_000_000/len(part)))
	}
	for _, text := range bad {
		row, code := impl.ReadRow(text)
		call("ReadRow", row, code).wantCode(t, strconv.Quote(text[:min(len(text), 40)]), impl.ErrSyntax)
	}
}

// ErrRange comes first, so the rows that are not fine have other bits, too.
func TestRowTextLimits(t *testing.T) {
	for _, row := range []uint32{0, 1, 1 << 23, 1 << 24, 1 << 31, 1<<32 - 1} {
		for _, coins := range []int64{math.MinInt64, -1 << 32, -256, -1, 25, 26, 31, 32, 33, 64, 256, 1 << 32, 1<<32 + 8, math.MaxInt64} {
			text, code := impl.RowText(row, coins)
			call("RowText", text, code).wantCode(t, fmt.Sprintf("%#x and %d", row, coins), impl.ErrRange)
		}
	}
	for coins := range int64(25) {
		for bit := range int64(32) {
			for _, row := range []uint32{1 << bit, 1<<bit | 1, 1<<bit | 1<<31} {
				want := int64(impl.OK)
				if bit >= coins || row>>31 == 1 || row&1 == 1 && coins == 0 {
					want = impl.ErrLimit
				}
				text, code := impl.RowText(row, coins)
				call("RowText", text, code).wantCode(t, fmt.Sprintf("%#x and %d", row, coins), want)
			}
		}
	}
}
