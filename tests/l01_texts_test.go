package tests

import (
	"slices"
	"strconv"
	"testing"

	"loop.example/g01307/impl"
)

// The texts of nimbers and of lists.

func TestTextsOfAllNimbers(t *testing.T) {
	for a := range all {
		text := impl.NimText(a)
		if want := "*" + strconv.Itoa(int(a)); text != want {
			t.Fatalf("NimText(%d) = %q, want %q", a, text, want)
		}
		if back, code := impl.ReadNim(text); back != a || code != impl.OK {
			t.Fatalf("ReadNim(%q) = %d, %d", text, back, code)
		}
		if back, code := impl.ReadNims(text); !slices.Equal(back, []impl.Nimber{a}) || code != impl.OK {
			t.Fatalf("ReadNims(%q) = %v, %d", text, back, code)
		}
	}
}

// badNims are texts that are nearly those of nimbers.
func badNims() []string {
	return []string{
		"*", "**", "0", "1", "65535", "**1", "*1*", "1*", "*+1", "*-1", "*-0", "*00", "*01", "*007", "*065535", "*65536", "*65537",
		"*70000", "*100000", "*131073", "*4294967296", "*18446744073709551616", "*99999999999999999999999999", "*1a", "*a", "*0x1", "*1_0", "*1.0", "*1e2", "*1,",
		"*1\n", "\n*1", "*1\t", "*\t1", "*1\x00", "\x00*1", "*\u0661", "*\uff11", "\u22171", "\xff", "*\xff", "nim", "*1;", "x*1", "\u00a0*1",
	}
}

func TestTextsOfNoNimber(t *testing.T) {
	for _, text := range append(badNims(), "", " ", " *1", "*1 ", "* 1", "*1 *2") {
		if a, code := impl.ReadNim(text); a != 0 || code != impl.ErrSyntax {
			t.Errorf("ReadNim(%q) = %d, %d", text, a, code)
		}
	}
}

func TestTextsOfLists(t *testing.T) {
	for text, want := range map[string][]impl.Nimber{
		"":                     nil,
		"*0":                   {0},
		"*3 *40":               {3, 40},
		"*0 *0":                {0, 0},
		"*65535 *0 *1":         {65535, 0, 1},
		"*9 *9 *10 *256 *4096": {9, 9, 10, 256, 4096},
	} {
		if got, code := impl.ReadNims(text); !slices.Equal(got, want) || code != impl.OK {
			t.Errorf("ReadNims(%q) = %v, %d", text, got, code)
		}
		if got := impl.NimsText(want); got != text {
			t.Errorf("NimsText(%v) = %q, want %q", want, got, text)
		}
	}
}

func TestTextsOfGreaterLists(t *testing.T) {
	for length := range 2*impl.MaxList + 2 {
		list := make([]impl.Nimber, length)
		for i := range list {
			list[i] = impl.Nimber(i * length * 31)
		}
		if back, code := impl.ReadNims(impl.NimsText(list)); !slices.Equal(back, list) || code != impl.OK {
			t.Fatalf("a list of %d nimbers is read as %d nimbers, %d", length, len(back), code)
		}
	}
}

func TestTextsOfNoList(t *testing.T) {
	bad := []string{" ", "  ", " *1", "*1 ", "*1  *2", "*1,*2", "*1, *2", "*1\t*2", "*1\n*2", "*1*2", "*1 2", "1 *2", "*1 * *2", "*1 *2 ", "*1 *02", "*1 *65536"}
	for _, text := range badNims() {
		bad = append(bad, text, "*5 "+text, text+" *5")
	}
	for _, text := range bad {
		if list, code := impl.ReadNims(text); len(list) != 0 || code != impl.ErrSyntax {
			t.Errorf("ReadNims(%q) = %v, %d", text, list, code)
		}
	}
}
