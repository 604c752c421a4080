package follow

import (
	"math/bits"

	"bolter/api"
)

const wordBits = 64

// places is a set of positions: bit p % 64 of word p / 64.
type places [(api.MaxPositions + wordBits - 1) / wordBits]uint64

func place(p int) places {
	var s places
	s[p/wordBits] = 1 << (p % wordBits)
	return s
}

func (s places) with(t places) places {
	for i, word := range t {
		s[i] |= word
	}
	return s
}

func (s places) has(p int) bool {
	return s[p/wordBits]>>(p%wordBits)&1 == 1
}

// all goes through the positions, rising.
func (s places) all(yield func(p int) bool) {
	for i, word := range s {
		for ; word != 0; word &= word - 1 {
			if !yield(i*wordBits + bits.TrailingZeros64(word)) {
				return
			}
		}
	}
}
