package tests

import (
	"strconv"
	"strings"
	"testing"

	"loop.example/g01307/impl"
)

// The texts of matrices.

func TestTextsOfMatrices(t *testing.T) {
	for _, a := range equationTables() {
		var rows []string
		for _, row := range a {
			var cells []string
			for _, cell := range row {
				cells = append(cells, "*"+strconv.Itoa(int(cell)))
			}
			rows = append(rows, strings.Join(cells, " "))
		}
		want := strings.Join(rows, ";")
		if got := impl.MatrixText(matrixOf(a)); got != want {
			t.Errorf("MatrixText of %v = %q", a, got)
		}
		back, code := impl.ReadMatrix(want)
		wantMatrix(t, "ReadMatrix of "+want, back, code, matrixOf(a))
	}
}

func TestTextsOfMatricesByHand(t *testing.T) {
	for text, want := range map[string]table{
		"*0":                  {{0}},
		"*65535":              {{65535}},
		"*1 *2 *3 *4 *5 *6":   {{1, 2, 3, 4, 5, 6}},
		"*1;*2;*3;*4;*5;*6":   {{1}, {2}, {3}, {4}, {5}, {6}},
		"*1 *2;*3 *4;*5 *600": {{1, 2}, {3, 4}, {5, 600}},
	} {
		m, code := impl.ReadMatrix(text)
		wantMatrix(t, "ReadMatrix of "+text, m, code, matrixOf(want))
		if back := impl.MatrixText(m); back != text {
			t.Errorf("MatrixText of what %s is = %q", text, back)
		}
	}
}

func TestTextsOfNoMatrix(t *testing.T) {
	bad := []string{
		"", ";", ";;", " ", "*1;", ";*1", "*1;;*2", "*1; *2", "*1 ;*2", "*1;*2 ", " *1;*2", "*1;*2;", "*1,*2", "*1:*2", "*1\n*2", "*1|*2",
		"*1;*1 *2", "*1 *2;*1", "*1 *2;*1 *2 *3", "*1 *2;*3;*4 *5", "*1 *2;*3 *4;*5", "*1  *2", "*1;2", "1;*2", "*1;*02", "*1;*65536", "*1 *2;*3 *-4",
		"*1 *2 *3 *4 *5 *6 *7", "*1;*2;*3;*4;*5;*6;*7", "*1;*2;*3;*4;*5;*6;", "*1;*2;*3;*4;*5;;*6", "*0 *0 *0 *0 *0 *0;*0 *0 *0 *0 *0 *0 *0", "[*1]", "*1\x00;*2", "\u00a0*1",
	}
	for _, text := range badNims() {
		bad = append(bad, text, "*5;"+text, text+";*5", "*5 *5;*5 "+text)
	}
	for _, text := range bad {
		m, code := impl.ReadMatrix(text)
		call("ReadMatrix", m, code).wantCode(t, strconv.Quote(text), impl.ErrSyntax)
	}
}

func TestGreatTextsOfNoMatrix(t *testing.T) {
	const length = 1_000_000
	for _, part := range []string{";", " ", "*", "*1;", "*1 ", "*1 *2;", "*1;\n", "\xff"} {
		for _, text := range []string{strings.Repeat(part, length/len(part)), "*1;" + strings.Repeat(part, length/len(part))} {
			m, code := impl.ReadMatrix(text)
			call("ReadMatrix", m, code).wantCode(t, strconv.Quote(part)+" many times", impl.ErrSyntax)
		}
	}
}
