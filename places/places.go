// Package places: sets of places of an automaton of positions: of its positions, and of the ends of its rules, whose numbers stand behind them.
package places

import (
	"math/bits"

	"bolter/api"
)

const (
	wordBits  = 64
	wordBytes = wordBits / 8
)

// Set has place p in it, if bit p % 64 of word p / 64 is 1.
type Set [(api.MaxPositions + api.MaxRules + wordBits - 1) / wordBits]uint64

func Of(l ...int) Set {
	var s Set
	for _, p := range l {
		s[p/wordBits] |= 1 << (p % wordBits)
	}
	return s
}

// With is what is in s or in t.
func (s Set) With(t Set) Set {
	for i, word := range t {
		s[i] |= word
	}
	return s
}

func (s Set) Has(p int) bool {
	return s[p/wordBits]>>(p%wordBits)&1 == 1
}

// Both is what is in s and in t.
func (s Set) Both(t Set) Set {
	for i, word := range t {
		s[i] &= word
	}
	return s
}

// All goes through the places, rising.
func (s Set) All(yield func(p int) bool) {
	for i, word := range s {
		for ; word != 0; word &= word - 1 {
			if !yield(i*wordBits + bits.TrailingZeros64(word)) {
				return
			}
		}
	}
}

// Text is a text of each set's own.
func (s Set) Text() string {
	var text [len(s) * wordBytes]byte
	for i := range text {
		text[i] = byte(s[i/wordBytes] >> (i % wordBytes * 8))
	}
	return string(text[:])
}
