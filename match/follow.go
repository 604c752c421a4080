package match

import (
	"iter"
	"slices"

	"bolter/api"
	"bolter/byteset"
)

// inOrder is each active rule once, the least one first.
func inOrder(active []int) []int {
	rules := slices.Clone(active)
	slices.Sort(rules)
	return slices.Compact(rules)
}

// endsIn goes through all n, rising, such that the first n bytes of a text are one of the words.
func endsIn(text []byte, w words) iter.Seq[int] {
	return func(yield func(int) bool) {
		if w.hasEmpty() && !yield(0) {
			return
		}
		now := w
		for i, b := range text {
			now = now.behind(b, i == 0)
			if !now.begun() || now.ended() && !yield(i+1) {
				return
			}
		}
	}
}

// greatestEnd is 0, too, if no beginning of the text is a word.
func greatestEnd(text []byte, w words) int {
	greatest := 0
	for n := range endsIn(text, w) {
		greatest = n
	}
	return greatest
}

func takes(w words, text []byte) bool {
	if len(text) == 0 {
		return w.hasEmpty()
	}
	return greatestEnd(text, w) == len(text)
}

// nextBehind is the bytes with which words go on that begin with a text.
func nextBehind(text []byte, w words) api.Set {
	for i, b := range text {
		w = w.behind(b, i == 0)
	}
	var next []byte
	for b := range 256 {
		if w.behind(byte(b), len(text) == 0).begun() {
			next = append(next, byte(b))
		}
	}
	return byteset.Of(next...)
}
