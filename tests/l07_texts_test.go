package tests

import (
	"fmt"
	"regexp"
	"slices"
	"strconv"
	"strings"
	"testing"

	"loop.example/g01307/impl"
)

// The texts of circuits, which promise 17 needs, too.

func TestTextsOfCircuits(t *testing.T) {
	for _, c := range manyCircuits() {
		want := circuitText(c)
		if got := impl.CircuitText(c); got != want {
			t.Fatalf("CircuitText of %s = %q", shortCircuit(c), got)
		}
		back, code := impl.ReadCircuit(want)
		wantCircuit(t, fmt.Sprintf("ReadCircuit of %q", want), back, code, c)
	}
	for _, c := range invalidCircuits() {
		if got := impl.CircuitText(c); got != "" {
			t.Errorf("CircuitText of %s = %q", shortCircuit(c), got[:min(len(got), 60)])
		}
	}
}

func TestTextsOfCircuitsByHand(t *testing.T) {
	one := impl.Gate{Kind: impl.GtOne}
	for text, want := range map[string]impl.Circuit{
		"0\n\n\n":                {},
		"16\n\n\n":               {Inputs: 16},
		"0\n1\n\n":               {Gates: []impl.Gate{one}},
		"1\ni0\n\n":              {Inputs: 1, Gates: []impl.Gate{{}}},
		"16\ni15\n0 0\n":         {Inputs: 16, Gates: []impl.Gate{{A: 15}}, Outputs: []int16{0, 0}},
		"2\ni0 i1 0&1\n2\n":      {Inputs: 2, Gates: []impl.Gate{{A: 0}, {A: 1}, {Kind: impl.GtAnd, A: 0, B: 1}}, Outputs: []int16{2}},
		"2\ni1 1 1^0 2&2\n3 0\n": {Inputs: 2, Gates: []impl.Gate{{A: 1}, one, {Kind: impl.GtXor, A: 1, B: 0}, {Kind: impl.GtAnd, A: 2, B: 2}}, Outputs: []int16{3, 0}},
		"0\n1 0^0 1&0 1\n3\n":    {Gates: []impl.Gate{one, {Kind: impl.GtXor}, {Kind: impl.GtAnd, A: 1}, one}, Outputs: []int16{3}},
	} {
		if got := impl.CircuitText(want); got != text {
			t.Errorf("CircuitText of %s = %q, want %q", shortCircuit(want), got, text)
		}
		got, code := impl.ReadCircuit(text)
		wantCircuit(t, fmt.Sprintf("ReadCircuit of %q", text), got, code, want)
	}
}

// noCircuitText reports whether a text is one of no valid circuit, by its form and the definition of what is valid.
func noCircuitText(text string) bool {
	number := `(0|[1-9][0-9]{0,3})`
	gate := `(i` + number + `|1|` + number + `[\^&]` + number + `)`
	if !regexp.MustCompile(`\A` + number + `\n(` + gate + `( ` + gate + `)*)?\n(` + number + `( ` + number + `)*)?\n\z`).MatchString(text) {
		return true
	}
	lines := strings.Split(text, "\n")
	inputs, _ := strconv.Atoi(lines[0])
	if inputs > 16 {
		return true
	}
	c := impl.Circuit{Inputs: int8(inputs)}
	for _, part := range strings.Fields(lines[1]) {
		numbers := strings.FieldsFunc(part, func(r rune) bool { return strings.ContainsRune("i^&", r) })
		var g impl.Gate
		a, _ := strconv.Atoi(numbers[0])
		b, _ := strconv.Atoi(numbers[len(numbers)-1])
		switch {
		case part == "1":
			g.Kind = impl.GtOne
		case part[0] == 'i':
			g.A = int16(a)
		default:
			g = impl.Gate{Kind: impl.GtXor, A: int16(a), B: int16(b)}
			if strings.Contains(part, "&") {
				g.Kind = impl.GtAnd
			}
		}
		c.Gates = append(c.Gates, g)
	}
	for _, part := range strings.Fields(lines[2]) {
		out, _ := strconv.Atoi(part)
		c.Outputs = append(c.Outputs, int16(out))
	}
	return !isCircuit(c)
}

// checkText reads any text, and tells whether it is that of a circuit.
func checkText(t *testing.T, text string) bool {
	t.Helper()
	c, code := impl.ReadCircuit(text)
	if noCircuitText(text) {
		call("ReadCircuit", c, code).wantCode(t, strconv.Quote(text), impl.ErrSyntax)
		return false
	}
	if code != impl.OK || circuitText(c) != text {
		t.Errorf("ReadCircuit of %q = %s, %d", text, shortCircuit(c), code)
	}
	return true
}

// Each text has one byte less, one more, or another one.
func TestTextsNearThoseOfCircuits(t *testing.T) {
	read, refused := 0, 0
	for _, text := range []string{"0\n\n\n", "1\n\n\n", "16\ni15\n\n", "2\ni0 i1 0&1\n2\n", "2\ni1 1 1^0 2&2\n3 0\n", "11\ni10 1 0^1 i0 i9 1 1 1 1 1 9&2 10&10\n10 11 1\n"} {
		near := []string{text}
		for at := range len(text) + 1 {
			for _, b := range []byte("0123456789 i^&\n-+*x\x00\t\r_.,\xff") {
				near = append(near, text[:at]+string([]byte{b})+text[at:])
				if at < len(text) {
					near = append(near, text[:at]+string([]byte{b})+text[at+1:])
				}
			}
			if at < len(text) {
				near = append(near, text[:at]+text[at+1:], text[:at]+text[at:at+1]+text[at:], text[at:], text[:at])
			}
			if at+1 < len(text) {
				near = append(near, text[:at]+text[at+1:at+2]+text[at:at+1]+text[at+2:])
			}
		}
		for _, other := range near {
			if checkText(t, other) {
				read++
			} else {
				refused++
			}
		}
	}
	if read < 50 || refused < 1000 {
		t.Errorf("%d texts are read, and %d are not: the test shows little", read, refused)
	}
}

// badCircuitTexts are texts that are nearly those of circuits.
func badCircuitTexts() []string {
	bad := []string{
		"", "\n", "\n\n", "\n\n\n", "0", "0\n", "0\n\n", "0\n\n\n\n", "0\n\n\n0", "0\n\n\n ", " 0\n\n\n", "0 \n\n\n", "0\n \n\n", "0\n\n \n", "\n0\n\n\n", "0\r\n\r\n\r\n", "0\n\n\n\x00", "\ufeff0\n\n\n", "0;;;",
		"00\n\n\n", "+0\n\n\n", "-0\n\n\n", "-1\n\n\n", "01\n\n\n", "016\n\n\n", "+16\n\n\n", "17\n\n\n", "127\n\n\n", "128\n\n\n", "256\n\n\n", "257\n\n\n", "272\n\n\n", "4294967296\n\n\n", "18446744073709551616\n\n\n", "1_0\n\n\n", "0x1\n\n\n", "1e1\n\n\n", "1.0\n\n\n", "\u0661\n\n\n", "a\n\n\n",
		"2\ni0 i1 0&1\n2", "2\ni0 i1 0&1\n2\n\n", "2\ni0 i1 0&1\n2 \n", "2\ni0 i1 0&1\n 2\n", "2\ni0 i1 0&1 \n2\n", "2\n i0 i1 0&1\n2\n", "2\ni0  i1 0&1\n2\n", "2\ni0 i1 0&1\n2  1\n", "2\n\ni0 i1 0&1\n2\n", "2\ni0 i1 0&1\n\n2\n", "2\ni0\ni1\n0\n", "2 i0 i1 0&1 2\n", "2\ni0 i1 0&1 2\n", "2\ni0,i1,0&1\n2\n", "2\ni0\ti1\n0\n", "2\ni0 i1\n0\t1\n", "2\ni0 i1\n0,1\n",
		"2\ni0 i1 0&2\n2\n", "2\ni0 i1 2&1\n2\n", "2\ni0 i1 2^2\n2\n", "2\ni0 i1 3^0\n2\n", "2\ni0 i1 0&1\n3\n", "2\ni0 i1 0&1\n-1\n", "2\ni0 i1 0&1\n+2\n", "2\ni0 i1 0&1\n02\n", "2\ni0 i1 0&1\n256\n", "2\ni0 i1 0&1\n65538\n", "2\ni0 i1 0&1\n65536\n", "2\ni0 i1 0&1\n4294967298\n", "2\ni0 i1 0&1\n18446744073709551618\n", "2\ni0 i1 0&1\n99999999999999999999999999\n",
		"2\ni0 i2\n\n", "2\ni0 i-1\n\n", "2\ni0 i+1\n\n", "2\ni0 i01\n\n", "2\ni0 i00\n\n", "2\ni0 i 1\n\n", "2\ni0 i\n\n", "2\ni0 I1\n\n", "2\ni0 1i\n\n", "2\ni0 ii1\n\n", "2\ni65536 i1\n\n", "2\ni256 i1\n\n", "2\ni0 i1.0\n\n", "2\ni0 i1^1\n\n", "2\ni0 i0^0\n\n", "0\ni0\n\n",
		"0\n01\n\n", "0\n+1\n\n", "0\n0\n\n", "0\n2\n\n", "0\n11\n\n", "0\n1 1 \n\n", "0\n1.\n\n", "0\none\n\n", "0\n-1\n\n",
		"1\ni0 0^\n1\n", "1\ni0 ^0\n1\n", "1\ni0 ^\n1\n", "1\ni0 &\n1\n", "1\ni0 0&\n1\n", "1\ni0 &0\n1\n", "1\ni0 0^^0\n1\n", "1\ni0 0^0^0\n1\n", "1\ni0 0&&0\n1\n", "1\ni0 0&^0\n1\n", "1\ni0 0^&0\n1\n", "1\ni0 0&0&0\n1\n", "1\ni0 0^0&0\n1\n", "1\ni0 0 ^ 0\n1\n", "1\ni0 0^ 0\n1\n", "1\ni0 0|0\n1\n", "1\ni0 0*0\n1\n", "1\ni0 0+0\n1\n", "1\ni0 00\n1\n", "1\ni0 0\n1\n",
		"1\ni0 00^0\n1\n", "1\ni0 0^00\n1\n", "1\ni0 -0^0\n1\n", "1\ni0 0^-0\n1\n", "1\ni0 +0^0\n1\n", "1\ni0 0^+0\n1\n", "1\ni0 -1^0\n1\n", "1\ni0 0&-1\n1\n", "1\ni0 1^0\n1\n", "1\ni0 0^1\n1\n", "1\ni0 65536^0\n1\n", "1\ni0 0&65536\n1\n", "1\ni0 256^0\n1\n", "1\ni0 (0^0)\n1\n", "1\ni0 0xor0\n1\n", "1\ni0 i0^i0\n1\n",
	}
	ones := strings.TrimSuffix(strings.Repeat("1 ", 601), " ")
	return append(bad, "0\n"+ones+"\n\n", "0\n"+ones+"\n600\n", "0\n1\n"+strings.Repeat("0 ", 16)+"0\n", "0\n"+ones[2:]+"\n600\n", "0\n"+ones[2:]+" \n\n")
}

func TestTextsOfNoCircuit(t *testing.T) {
	for _, text := range badCircuitTexts() {
		if !noCircuitText(text) {
			t.Errorf("%q is the text of a circuit", text)
		}
		c, code := impl.ReadCircuit(text)
		call("ReadCircuit", c, code).wantCode(t, strconv.Quote(text[:min(len(text), 60)]), impl.ErrSyntax)
	}
	if ones := strings.TrimSuffix(strings.Repeat("1 ", 600), " "); !checkText(t, "16\n"+ones+"\n"+strings.Repeat("599 ", 15)+"599\n") {
		t.Errorf("the text of a great circuit is refused")
	}
}

func TestGreatTextsOfNoCircuit(t *testing.T) {
	const length = 1_000_000
	for _, part := range []string{" ", "\n", "i", "i0", "i0 ", "1", "1 ", "0", "9", "^", "&", "0^0", "0^0 ", "0&0 ", "1\n", "0 1\n", "\x00", "\xff"} {
		whole := strings.Repeat(part, length/len(part))
		for _, text := range []string{whole, "1\n" + whole, "1\n" + whole + "\n\n", "1\ni0\n" + whole, "1\ni0\n" + whole + "\n", whole + "\n\n\n", "1\ni0\n0\n" + whole, "1\ni" + whole + "\n0\n", "1\ni0 0^" + whole + "\n0\n", "1\ni0 " + whole + "^0\n0\n"} {
			c, code := impl.ReadCircuit(text)
			call("ReadCircuit", c, code).wantCode(t, fmt.Sprintf("%q many times", part), impl.ErrSyntax)
		}
	}
	outputs := slices.Repeat([]string{"0"}, length/2)
	c, code := impl.ReadCircuit("1\ni0\n" + strings.Join(outputs, " ") + "\n")
	call("ReadCircuit", c, code).wantCode(t, "too many outputs", impl.ErrSyntax)
}
