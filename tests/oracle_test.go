package tests

import (
	"sync"

	"loop.example/g01307/impl"
)

// The oracle multiplies nimbers in another way than the program, so that both do not share a mistake: it knows the
// products of the powers of 2 alone, from those of 2, 4, 16 and 256, and all others by their bits, or by logarithms.

const units = 65535

type oracle struct {
	bits [16][16]uint16
	exp  [units]uint16
	log  [units + 1]int
}

// times is the product by logarithms.
func (o *oracle) times(a, b impl.Nimber) impl.Nimber {
	if a == 0 || b == 0 {
		return 0
	}
	return impl.Nimber(o.exp[(o.log[a]+o.log[b])%units])
}

// power is the product of n times a.
func (o *oracle) power(a impl.Nimber, n int64) impl.Nimber {
	if n == 0 {
		return 1
	}
	if a == 0 {
		return 0
	}
	return impl.Nimber(o.exp[int64(o.log[a])*(n%units)%units])
}

func (o *oracle) timesByBits(a, b uint16) uint16 {
	product := uint16(0)
	for i := range 16 {
		for j := range 16 {
			if a>>i&1 == 1 && b>>j&1 == 1 {
				product ^= o.bits[i][j]
			}
		}
	}
	return product
}

// timesPowers is the product of 2 to the power i and 2 to the power j; those with lesser exponents have to be known.
func (o *oracle) timesPowers(i, j int) uint16 {
	if i == 0 || j == 0 {
		return 1 << (i + j)
	}
	top := 8
	for (i|j)&top == 0 {
		top /= 2
	}
	rest := o.bits[i&^top][j&^top] // less than F, which is 2 to the power top: its product with F is a usual one
	if i&j&top == 0 {
		return rest << top
	}
	return rest<<top ^ o.timesByBits(rest, 1<<(top-1)) // F times F is the sum of F and F / 2
}

var theOracle = sync.OnceValue(func() *oracle {
	o := &oracle{}
	for sum := 0; sum <= 30; sum++ {
		for i := 0; i < 16; i++ {
			if j := sum - i; j >= 0 && j < 16 {
				o.bits[i][j] = o.timesPowers(i, j)
			}
		}
	}
	for base := uint16(2); !o.fill(base); base++ {
	}
	return o
})

// fill makes the tables of logarithms, if all nimbers but 0 are powers of the base.
func (o *oracle) fill(base uint16) bool {
	power := uint16(1)
	for n := range units {
		if n > 0 && power == 1 {
			return false
		}
		o.exp[n], o.log[power] = power, n
		power = o.timesByBits(power, base)
	}
	return true
}

// leastExcluded is the least number that is not in a set.
func leastExcluded(set map[impl.Nimber]bool) impl.Nimber {
	least := impl.Nimber(0)
	for set[least] {
		least++
	}
	return least
}

// all calls a function with each nimber, until it tells to stop.
func all(yield func(impl.Nimber) bool) {
	for a := range 65536 {
		if !yield(impl.Nimber(a)) {
			return
		}
	}
}

// samples has nimbers of all levels, those at the ends of levels, and those around powers of 2.
func samples() []impl.Nimber {
	list := []impl.Nimber{0, 1, 2, 3, 5, 6, 11, 14, 21, 24, 31, 77, 170, 187, 222, 300, 1000, 4321, 12345, 23456, 40000, 43690, 52428, 65280, 65534, 65535}
	for power := 4; power < 65536; power *= 2 {
		list = append(list, impl.Nimber(power-1), impl.Nimber(power), impl.Nimber(power+1))
	}
	return list
}

// levelBound is how many nimbers have a level of at most level.
func levelBound(level int64) int {
	return []int{2, 4, 16, 256, 65536}[level]
}
