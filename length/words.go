package length

import "bolter/api"

// words is what an expression's words are, as far as their lengths go: none, bounded or endless.
type words interface {
	lengths() api.Lengths
}

// none: there are no words.
type none struct{}

// bounded: the shortest words have so many bytes, the longest ones so many.
type bounded struct{ least, most int }

// endless: the shortest words have so many bytes, and there is no longest one.
type endless struct{ least int }

func (none) lengths() api.Lengths      { return api.Lengths{None: true} }
func (w bounded) lengths() api.Lengths { return api.Lengths{Least: w.least, Most: w.most} }
func (w endless) lengths() api.Lengths { return api.Lengths{Least: w.least, Most: -1} }

// wordsOf is of a core, or of what stands in one.
func wordsOf(e api.Expr) words {
	switch e.Op {
	case api.OpSet:
		return setWords(e.Set)
	case api.OpCat:
		w := emptyWord()
		for _, arg := range e.Args {
			w = joined(w, wordsOf(arg))
		}
		return w
	case api.OpAlt:
		var w words = none{}
		for _, arg := range e.Args {
			w = either(w, wordsOf(arg))
		}
		return w
	case api.OpRepeat:
		return countedWords(wordsOf(e.Args[0]), e.Min, e.Max)
	}
	return emptyWord()
}

func emptyWord() words {
	return bounded{0, 0}
}

func setWords(s api.Set) words {
	if s == (api.Set{}) {
		return none{}
	}
	return bounded{1, 1}
}

// countedWords is of a core's counts, whose least is 0 or 1.
func countedWords(w words, least, most int) words {
	if most == -1 {
		w = again(w)
	}
	if least == 0 {
		w = either(emptyWord(), w)
	}
	return w
}

// again is one or more of the words, one behind the other.
func again(w words) words {
	// The empty word alone gives no longer ones, however often it stands.
	if b, ok := w.(bounded); ok && b.most > 0 {
		return endless{b.least}
	}
	return w
}

// joined is a word of v and one of w behind it.
func joined(v, w words) words {
	switch v := v.(type) {
	case bounded:
		switch w := w.(type) {
		case bounded:
			return bounded{v.least + w.least, v.most + w.most}
		case endless:
			return endless{v.least + w.least}
		}
	case endless:
		if least, some := shortest(w); some {
			return endless{v.least + least}
		}
	}
	return none{}
}

// either is the words of v and those of w.
func either(v, w words) words {
	switch v := v.(type) {
	case bounded:
		switch w := w.(type) {
		case bounded:
			return bounded{min(v.least, w.least), max(v.most, w.most)}
		case endless:
			return endless{min(v.least, w.least)}
		}
		return v
	case endless:
		if least, some := shortest(w); some {
			return endless{min(v.least, least)}
		}
		return v
	}
	return w
}

// shortest is the length of the shortest words, if there are some.
func shortest(w words) (int, bool) {
	switch w := w.(type) {
	case bounded:
		return w.least, true
	case endless:
		return w.least, true
	}
	return 0, false
}
