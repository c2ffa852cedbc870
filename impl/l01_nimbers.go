package impl

import (
	"iter"
	"math/bits"
	"slices"
	"strconv"
	"strings"
)

// Codes of errors.
const (
	OK          = 0
	ErrInvalid  = 1
	ErrRange    = 2
	ErrLimit    = 3
	ErrState    = 4
	ErrSyntax   = 5
	ErrNotFound = 6
	ErrBudget   = 7
	ErrProof    = 8
)

// Limits of nimbers.
const (
	MaxLevel = 4
	MaxList  = 1000
)

// Limits that chapter 1 states where they apply.
const (
	nimberBits   = 16
	maxExponent  = 1 << 40
	maxExclusion = 31
)

// unitCount is how many nimbers have an inverse: all but 0.
const unitCount = 1<<nimberBits - 1

// logStride is the root of the number of all nimbers: so many exponents are kept by LogOf, and so many strides are made.
const logStride = 1 << (nimberBits / 2)

// Indices of the table of foldings.
const (
	foldPlus = iota
	foldTimes
)

// Nimber is a number of the field.
type Nimber uint16

// folding joins a list to one nimber.
type folding struct {
	empty Nimber
	join  func(a, b Nimber) Nimber
}

// CodeName returns the name of an error code.
func CodeName(code int64) string {
	names := [...]string{
		OK:          "ok",
		ErrInvalid:  "invalid",
		ErrRange:    "range",
		ErrLimit:    "limit",
		ErrState:    "state",
		ErrSyntax:   "syntax",
		ErrNotFound: "notfound",
		ErrBudget:   "budget",
		ErrProof:    "proof",
	}
	if code < 0 || code >= int64(len(names)) {
		return ""
	}
	return names[code]
}

func (a Nimber) plus(b Nimber) Nimber { return a ^ b }

func (a Nimber) times(b Nimber) Nimber {
	if a < 2 || b < 2 {
		return a * b // with 0 and 1 both kinds of product are the same
	}
	// The greater one of both levels tells where both are cut.
	half := int64(1) << ((a | b).level() - 1)
	low := Nimber(1)<<half - 1
	a1, a0 := a>>half, a&low
	b1, b0 := b>>half, b&low
	p := a1.times(b1)
	u := a0.times(b0)
	// The product of both sums has a0 b0 besides what s needs; to take it away by u saves a product.
	s := a1.plus(a0).times(b1.plus(b0)).plus(u)
	t := u.plus(p.times(Nimber(1) << (half - 1)))
	return s<<half | t
}

func (a Nimber) square() Nimber { return a.times(a) }

// level is at most MaxLevel, as a shift by nimberBits leaves nothing.
func (a Nimber) level() int64 {
	level := int64(0)
	for width := 1; a>>width != 0; width *= 2 {
		level++
	}
	return level
}

func (a Nimber) power(n int64) Nimber {
	product := Nimber(1)
	for ; n > 0; n >>= 1 {
		if n&1 == 1 {
			product = product.times(a)
		}
		a = a.square()
	}
	return product
}

// root undoes square: 16 squares lead from each nimber to itself again, so 15 lead to its root.
func (a Nimber) root() Nimber { return a.power(1 << (nimberBits - 1)) }

// inverse needs no search, as the power unitCount of each nimber but 0 is 1.
func (a Nimber) inverse() Nimber { return a.power(unitCount - 1) }

// order takes from unitCount the primes that are not needed. Each one is in it just once, so it is tried once.
func (a Nimber) order() int64 {
	n := int64(unitCount)
	for _, prime := range [...]int64{3, 5, 17, 257} {
		if a.power(n/prime) == 1 {
			n /= prime
		}
	}
	return n
}

// conjugates ends, as taking squares is one to one and so comes back to a.
func (a Nimber) conjugates() iter.Seq[Nimber] {
	return func(yield func(Nimber) bool) {
		for c := a; yield(c); {
			c = c.square()
			if c == a {
				return
			}
		}
	}
}

// PlusNim returns the sum of two nimbers.
func PlusNim(a, b Nimber) Nimber { return a.plus(b) }

// TimesNim returns the product of two nimbers.
func TimesNim(a, b Nimber) Nimber { return a.times(b) }

// ExcludedBy returns the least number that is not in a list.
func ExcludedBy(list []Nimber) (int64, int64) {
	if len(list) > MaxList {
		return 0, ErrLimit
	}
	// So many nimbers cannot exclude all numbers up to their count.
	excluded := make([]bool, len(list)+1)
	for _, a := range list {
		if int(a) < len(excluded) {
			excluded[a] = true
		}
	}
	return int64(slices.Index(excluded, false)), OK
}

// TimesByExclusion returns the product of two nimbers by what is excluded.
func TimesByExclusion(a, b Nimber) (Nimber, int64) {
	if a > maxExclusion || b > maxExclusion {
		return 0, ErrRange
	}
	// Each product needs those of lesser nimbers alone, so this order finds each one just once.
	known := map[Nimber][]Nimber{}
	for x := range a + 1 {
		for y := range b + 1 {
			known[x] = append(known[x], leastProduct(known, x, y))
		}
	}
	return known[a][b], OK
}

// leastProduct expects all products of nimbers up to a and b, but for that of both, to be known: by a row for each a.
func leastProduct(known map[Nimber][]Nimber, a, b Nimber) Nimber {
	list := make([]Nimber, 0, int(a)*int(b))
	row := known[a]
	for x := range a {
		lesser := known[x]
		for y := range b {
			list = append(list, lesser[b].plus(row[y]).plus(lesser[y]))
		}
	}
	// The list keeps to MaxList, as maxExclusion times itself does.
	least, _ := ExcludedBy(list)
	return Nimber(least)
}

// LevelOf returns the level of a nimber.
func LevelOf(a Nimber) int64 { return a.level() }

// SquareOf returns the square of a nimber.
func SquareOf(a Nimber) Nimber { return a.square() }

// RootOf returns the square root of a nimber.
func RootOf(a Nimber) Nimber { return a.root() }

// InverseOf returns the inverse of a nimber.
func InverseOf(a Nimber) (Nimber, int64) { return OverNim(1, a) }

// OverNim returns the quotient of two nimbers.
func OverNim(a, b Nimber) (Nimber, int64) {
	if b == 0 {
		return 0, ErrState
	}
	return a.times(b.inverse()), OK
}

// PowerOf returns a power of a nimber.
func PowerOf(a Nimber, n int64) (Nimber, int64) {
	if n < 0 || n > maxExponent {
		return 0, ErrRange
	}
	return a.power(n), OK
}

// OrderOf returns the order of a nimber.
func OrderOf(a Nimber) (int64, int64) {
	if a == 0 {
		return 0, ErrState
	}
	return a.order(), OK
}

// LeastGenerator returns the least generator of a level.
func LeastGenerator(level int64) (Nimber, int64) {
	if level < 1 || level > MaxLevel {
		return 0, ErrRange
	}
	width := int64(1) << level
	units := int64(1)<<width - 1
	// Powers of lesser nimbers stay in a lesser level. There is a generator, as the units of a finite field are powers of one.
	a := Nimber(1) << (width / 2)
	for a.order() != units {
		a++
	}
	return a, OK
}

// LogOf returns the logarithm of a nimber.
func LogOf(base, a Nimber) (int64, int64) {
	if base == 0 { // it has no inverse; its powers are 1, and then 0
		if a > 1 {
			return 0, ErrNotFound
		}
		return int64(1 - a), OK
	}
	least, stride := firstPowers(base)
	back := stride.inverse()
	for n := range int64(logStride) {
		if rest, found := least[a]; found {
			return n*logStride + rest, OK
		}
		a = a.times(back)
	}
	return 0, ErrNotFound
}

// firstPowers returns the least exponents of all powers before that with logStride, and this one itself.
func firstPowers(base Nimber) (map[Nimber]int64, Nimber) {
	least := map[Nimber]int64{}
	power := Nimber(1)
	for n := range int64(logStride) {
		if _, found := least[power]; !found {
			least[power] = n
		}
		power = power.times(base)
	}
	return least, power
}

// TraceOf returns the trace of a nimber.
func TraceOf(a Nimber) Nimber {
	sum := Nimber(0)
	for range nimberBits {
		sum = sum.plus(a)
		a = a.square()
	}
	return sum
}

// ConjugatesOf returns the conjugates of a nimber.
func ConjugatesOf(a Nimber) []Nimber {
	var list []Nimber
	for c := range a.conjugates() {
		list = append(list, c)
	}
	return list
}

// halfSolver returns the function that finds the least x for which the sum of x and its square is a.
// This sum, for a sum of nimbers, is the sum of theirs, so it is enough to know it for the powers of 2.
func halfSolver() func(a Nimber) (Nimber, bool) {
	var sums, origins [nimberBits]Nimber // by the greatest bit of the sum
	reduce := func(sum, x Nimber) (Nimber, Nimber) {
		for sum != 0 {
			top := bits.Len16(uint16(sum)) - 1
			if sums[top] == 0 {
				break
			}
			sum, x = sum.plus(sums[top]), x.plus(origins[top])
		}
		return sum, x
	}
	// The bit 0 is left away: 1 and its square have the sum 0, so that the solutions are even ones, and these plus 1.
	for bit := 1; bit < nimberBits; bit++ {
		x := Nimber(1) << bit
		sum, origin := reduce(x.plus(x.square()), x)
		top := bits.Len16(uint16(sum)) - 1 // sum is not 0: only those of 0 and 1 are
		sums[top], origins[top] = sum, origin
	}
	return func(a Nimber) (Nimber, bool) {
		rest, x := reduce(a, 0)
		return x, rest == 0
	}
}

// HalfRoot returns the least nimber whose sum with its square is a.
func HalfRoot(a Nimber) (Nimber, int64) {
	solve := halfSolver()
	x, found := solve(a)
	if !found {
		return 0, ErrNotFound
	}
	return x, OK
}

// QuadraticRoots returns the roots of a quadratic equation.
func QuadraticRoots(p, q Nimber) []Nimber {
	if p == 0 {
		return []Nimber{q.root()}
	}
	// With x = p y, the equation is that of HalfRoot for y, both sides being divided by the square of p.
	y, code := HalfRoot(q.times(p.square().inverse()))
	if code != OK {
		return nil
	}
	x := p.times(y)
	roots := []Nimber{x, x.plus(p)}
	slices.Sort(roots)
	return roots
}

// foldings returns the table of what joins lists.
func foldings() [2]folding {
	return [...]folding{
		foldPlus:  {empty: 0, join: Nimber.plus},
		foldTimes: {empty: 1, join: Nimber.times},
	}
}

func foldList(kind int, list []Nimber) Nimber {
	fold := foldings()[kind]
	joined := fold.empty
	for _, a := range list {
		joined = fold.join(joined, a)
	}
	return joined
}

// SumOf returns the sum of a list.
func SumOf(list []Nimber) Nimber { return foldList(foldPlus, list) }

// ProductOf returns the product of a list.
func ProductOf(list []Nimber) Nimber { return foldList(foldTimes, list) }

// LeadingMove returns the first move that makes the sum 0.
func LeadingMove(heaps []Nimber) (int64, Nimber, int64) {
	sum := SumOf(heaps)
	for i, heap := range heaps {
		if to := heap.plus(sum); to < heap {
			return int64(i), to, OK
		}
	}
	return 0, 0, ErrNotFound // the sum is 0: otherwise a heap with its greatest bit becomes less
}

// NimText returns the text of a nimber.
func NimText(a Nimber) string { return "*" + strconv.FormatUint(uint64(a), 10) }

// ReadNim returns the nimber with a text.
func ReadNim(text string) (Nimber, int64) {
	n, err := strconv.ParseUint(strings.TrimPrefix(text, "*"), 10, nimberBits)
	// What is read has to be compared, too: numbers with zeros in front can be parsed, and so can texts without a star.
	if err != nil || NimText(Nimber(n)) != text {
		return 0, ErrSyntax
	}
	return Nimber(n), OK
}

// NimsText returns the text of a list.
func NimsText(list []Nimber) string {
	texts := make([]string, len(list))
	for i, a := range list {
		texts[i] = NimText(a)
	}
	return strings.Join(texts, " ")
}

// ReadNims returns the list with a text.
func ReadNims(text string) ([]Nimber, int64) {
	if text == "" { // Split would make one empty part of it
		return nil, OK
	}
	parts := strings.Split(text, " ")
	list := make([]Nimber, len(parts))
	for i, part := range parts {
		a, code := ReadNim(part)
		if code != OK {
			return nil, code
		}
		list[i] = a
	}
	return list, OK
}
