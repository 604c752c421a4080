package match

import "bolter/api"

// words are an expression's words while a text is followed in them, byte by byte. Those of an expression that stands in another one may begin at many places of the text: what is left of all that have begun is followed side by side.
type words interface {
	// hasEmpty is whether the empty word is one of them.
	hasEmpty() bool
	// begun is whether something is left of one that has begun, be it the empty word.
	begun() bool
	// ended is whether the empty word is left of one that has begun.
	ended() bool
	// behind is what is left behind one more byte: of those that have begun, and, if they begin anew with it, of all of them.
	behind(b byte, anew bool) words
}

// ruleWords is of a rule that may be.
func ruleWords(c api.Core) words {
	if c.HasTrail {
		return joined(wordsOf(c.Head), wordsOf(c.Trail))
	}
	return wordsOf(c.Head)
}

// wordsOf is of a core, or of what stands in one; none of the words has begun.
func wordsOf(e api.Expr) words {
	switch e.Op {
	case api.OpSet:
		return setWords(e.Set)
	case api.OpCat:
		return halved(e.Args, joined)
	case api.OpAlt:
		return halved(e.Args, either)
	case api.OpRepeat:
		return counted(wordsOf(e.Args[0]), e.Min == 0, e.Max == -1)
	}
	return empty{}
}

// halved puts a list together by halves: so of a long one a byte touches few parts.
func halved(l []api.Expr, together func(v, w words) words) words {
	if len(l) == 1 {
		return wordsOf(l[0])
	}
	half := len(l) / 2
	return together(halved(l[:half], together), halved(l[half:], together))
}

func setWords(s api.Set) words {
	if s == (api.Set{}) {
		return none{}
	}
	return newSet(s)
}

// joined has no part without words, in which a text would seem to go on.
func joined(v, w words) words {
	if isNone(v) || isNone(w) {
		return none{}
	}
	return newCat(v, w)
}

func either(v, w words) words {
	if isNone(v) {
		return w
	}
	if isNone(w) {
		return v
	}
	return newAlt(v, w)
}

func counted(w words, noTime, manyTimes bool) words {
	if isNone(w) {
		if noTime {
			return empty{}
		}
		return w
	}
	// Counts of counts are one count: so deep ones take no more steps a byte.
	if r, ok := w.(*repeat); ok {
		return newRepeat(r.part, noTime || r.noTime, manyTimes || r.manyTimes)
	}
	return newRepeat(w, noTime, manyTimes)
}

func isNone(w words) bool {
	_, is := w.(none)
	return is
}
