package census

import (
	"math"
	"math/bits"
)

// count is how many of something there are; if they are 2^64 or more, it is not whole, and n is 2^64 - 1.
type count struct {
	n     uint64
	whole bool
}

func exactly(n uint64) count {
	return count{n, true}
}

func (c *count) add(more count) {
	sum, carry := bits.Add64(c.n, more.n, 0)
	c.n, c.whole = sum, c.whole && more.whole && carry == 0
	if !c.whole {
		c.n = math.MaxUint64
	}
}

// place is a place among things of which some are counted one count behind the other.
type place uint64

// within tells whether the place is among these; if it is not, it goes on as the place among those behind them.
func (k *place) within(c count) bool {
	if !c.whole || uint64(*k) < c.n {
		return true
	}
	*k -= place(c.n)
	return false
}
