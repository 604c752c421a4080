package match

import (
	"bolter/api"
	"bolter/byteset"
)

// none: there are no words.
type none struct{}

func (none) hasEmpty() bool          { return false }
func (none) begun() bool             { return false }
func (none) ended() bool             { return false }
func (none) behind(byte, bool) words { return none{} }

// empty: the empty word alone; behind a byte nothing is left of it.
type empty struct{}

func (empty) hasEmpty() bool          { return true }
func (empty) begun() bool             { return false }
func (empty) ended() bool             { return false }
func (empty) behind(byte, bool) words { return empty{} }

// set: each single byte of a set.
type set struct {
	bytes api.Set
	read  bool
	other *set // the same bytes, read, if these are not, and not, if these are
}

func newSet(bytes api.Set) *set {
	s := &set{bytes: bytes}
	s.other = &set{bytes: bytes, read: true, other: s}
	return s
}

func (s *set) hasEmpty() bool { return false }
func (s *set) begun() bool    { return s.read }
func (s *set) ended() bool    { return s.read }

func (s *set) behind(b byte, anew bool) words {
	if read := anew && byteset.Has(s.bytes, b); read != s.read {
		return s.other
	}
	return s
}

// told is what words with parts answer: it is kept, so that no part is asked for it again.
type told struct{ empty, some, end bool }

func (t told) hasEmpty() bool { return t.empty }
func (t told) begun() bool    { return t.some }
func (t told) ended() bool    { return t.end }

// cat: a word of the first and one of the second behind it.
type cat struct {
	told
	first, second words
}

func newCat(first, second words) *cat {
	return &cat{told{
		empty: first.hasEmpty() && second.hasEmpty(),
		some:  first.begun() || second.begun(),
		end:   second.ended() || first.ended() && second.hasEmpty(),
	}, first, second}
}

func (c *cat) behind(b byte, anew bool) words {
	if !c.some && !anew {
		return c
	}
	first := c.first.behind(b, anew)
	second := c.second.behind(b, c.first.ended() || anew && c.first.hasEmpty())
	if first == c.first && second == c.second {
		return c
	}
	return newCat(first, second)
}

// alt: the words of one and those of the other.
type alt struct {
	told
	one, other words
}

func newAlt(one, other words) *alt {
	return &alt{told{
		empty: one.hasEmpty() || other.hasEmpty(),
		some:  one.begun() || other.begun(),
		end:   one.ended() || other.ended(),
	}, one, other}
}

func (a *alt) behind(b byte, anew bool) words {
	if !a.some && !anew {
		return a
	}
	one, other := a.one.behind(b, anew), a.other.behind(b, anew)
	if one == a.one && other == a.other {
		return a
	}
	return newAlt(one, other)
}

// repeat: a word of the part; or none of it, too; or many of them, one behind the other, too.
type repeat struct {
	told
	part              words
	noTime, manyTimes bool
}

func newRepeat(part words, noTime, manyTimes bool) *repeat {
	return &repeat{told{
		empty: noTime || part.hasEmpty(),
		some:  part.begun(),
		end:   part.ended(),
	}, part, noTime, manyTimes}
}

func (r *repeat) behind(b byte, anew bool) words {
	if !r.some && !anew {
		return r
	}
	part := r.part.behind(b, anew || r.manyTimes && r.part.ended())
	if part == r.part {
		return r
	}
	return newRepeat(part, r.noTime, r.manyTimes)
}
