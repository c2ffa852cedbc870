package tests

import (
	"slices"
	"strconv"
	"strings"
	"testing"

	"loop.example/g01307/impl"
)

// The texts of polynomials, of which promise 12 needs that they are read.

func TestTextsOfPolynomials(t *testing.T) {
	for _, p := range slices.Concat(polys(), smallPolys(2, 6), smallPolys(4, 4)) {
		var parts []string
		for _, a := range p {
			parts = append(parts, "*"+strconv.Itoa(int(a)))
		}
		want := strings.Join(parts, " ")
		if len(p) == 0 {
			want = "0"
		}
		if got := impl.PolyText(p); got != want {
			t.Errorf("PolyText of %v = %q", p, got)
		}
		back, code := impl.ReadPoly(want)
		wantList(t, "ReadPoly of "+strconv.Quote(want), back, code, p)
	}
}

func TestTextsOfPolynomialsByHand(t *testing.T) {
	for text, want := range map[string]impl.Poly{
		"0":                                  nil,
		"*1":                                 {1},
		"*65535":                             {65535},
		"*0 *1":                              {0, 1},
		"*2 *3 *1":                           {2, 3, 1},
		"*0 *0 *0 *300":                      {0, 0, 0, 300},
		strings.Repeat("*0 ", 20) + "*7":     powerPoly(20, 7),
		strings.Repeat("*65535 ", 20) + "*1": append(slices.Repeat(impl.Poly{65535}, 20), 1),
	} {
		p, code := impl.ReadPoly(text)
		wantList(t, "ReadPoly of "+strconv.Quote(text), p, code, want)
		if got := impl.PolyText(want); got != text {
			t.Errorf("PolyText of %v = %q, want %q", want, got, text)
		}
	}
}

// badPolys are texts that are nearly those of polynomials.
func badPolys() []string {
	bad := []string{
		"", " ", "  ", "00", "-0", "+0", "0 ", " 0", "0\n", "\n0", "0\x00", "0 0", "0 *1", "*1 0", "*1 0 *1", "0,", "0x0", "0.0", "o", "O", "\u0660", "\uff10", "zero", "nil", "[]",
		"*0", "*0 *0", "*1 *0", "*0 *1 *0", "*2 *3 *1 *0", "*65535 *0", "*1 ", " *1", "*1  *1", "*1 *1 ", "*1 *01", "*01 *1", "*1 *00", "*1,*1", "*1\t*1", "*1\n*1", "*1+*1", "*1 + *1", "*1 *1x", "*1;*1", "*1 1", "1 *1", "*1*1", "*1 *-1", "*1 *65536", "*65536 *1", "*1 *65537",
		strings.Repeat("*0 ", 20) + "*0", strings.Repeat("*1 ", 20) + "*0", strings.Repeat("*0 ", 21) + "*1", strings.Repeat("*1 ", 21) + "*1", strings.Repeat("*1 ", 21) + "*0", strings.Repeat("*1 ", 20), strings.Repeat("*1 ", 21), strings.Repeat("*1 ", 255) + "*1", strings.Repeat("*1 ", 256) + "*1", strings.Repeat("*1 ", 276) + "*1",
	}
	for _, text := range badNims() {
		bad = append(bad, "*5 "+text, text+" *5", "0"+text)
		if text != "0" {
			bad = append(bad, text)
		}
	}
	return bad
}

func TestTextsOfNoPolynomial(t *testing.T) {
	for _, text := range badPolys() {
		p, code := impl.ReadPoly(text)
		call("ReadPoly", p, code).wantCode(t, strconv.Quote(text), impl.ErrSyntax)
	}
}

func TestGreatTextsOfNoPolynomial(t *testing.T) {
	for _, part := range []string{"0", "*", " ", "*1", "*0 ", "*1 ", "0 ", "\x00", "\xff"} {
		for _, end := range []string{"", "*1", "*0", "0"} {
			p, code := impl.ReadPoly(strings.Repeat(part, 1_000_000/len(part)) + end)
			call("ReadPoly", p, code).wantCode(t, strconv.Quote(part)+" many times, and "+end, impl.ErrSyntax)
		}
	}
}

func TestTextsOfPolynomialsThatAreNotValid(t *testing.T) {
	for _, p := range invalidPolys() {
		if text := impl.PolyText(p); text != "" {
			t.Errorf("PolyText of %s = %q", shortPoly(p), text[:min(len(text), 40)])
		}
	}
}
