package expand_test

import (
	"bolter/api"
	"bolter/byteset"
)

// A second reading of the chapter, row by row, and of DOC.md's words: slow, and with no bounds of its own.

type meanings map[string]api.Expr

func meaningsOf(defs []api.Def) meanings {
	m := meanings{}
	for _, d := range defs {
		m[d.Name] = d.Expr
	}
	return m
}

func (m meanings) core(e api.Expr) api.Expr {
	switch e.Op {
	case api.OpEmpty:
		return empty()
	case api.OpSet:
		return api.Expr{Op: api.OpSet, Set: e.Set}
	case api.OpWord:
		var l []api.Expr
		for _, b := range []byte(e.Text) {
			l = append(l, api.Expr{Op: api.OpSet, Set: byteset.Of(b)})
		}
		if len(l) == 1 {
			return l[0]
		}
		return cat(l...)
	case api.OpRef:
		return m.core(m[e.Text])
	case api.OpCat:
		return m.cat(e)
	case api.OpAlt:
		return m.alt(e)
	}
	return m.repeat(e.Min, e.Max, m.core(e.Args[0]))
}

func (m meanings) cat(e api.Expr) api.Expr {
	var l []api.Expr
	for _, a := range e.Args {
		if c := m.core(a); c.Op != api.OpEmpty {
			l = append(l, c)
		}
	}
	if len(l) == 0 {
		return empty()
	}
	if len(l) == 1 {
		return l[0]
	}
	return cat(l...)
}

func (m meanings) alt(e api.Expr) api.Expr {
	var cores, l []api.Expr
	other := false
	for _, a := range e.Args {
		c := m.core(a)
		cores = append(cores, c)
		other = other || c.Op != api.OpEmpty && nullable(c)
	}
	for i, c := range cores {
		behind := false
		for _, d := range cores[:i] {
			behind = behind || d.Op == api.OpEmpty
		}
		if c.Op != api.OpEmpty || !behind && !other {
			l = append(l, c)
		}
	}
	if len(l) == 1 {
		return l[0]
	}
	return alt(l...)
}

func (m meanings) repeat(least, most int, c api.Expr) api.Expr {
	switch {
	case c.Op == api.OpEmpty || least == 0 && most == 0:
		return empty()
	case least == 1 && most == 1:
		return c
	case least == 0 && most == -1, least == 1 && most == -1, least == 0 && most == 1:
		return againOf(least, most, c)
	case least == most:
		return cat(timesOf(least, c)...)
	case most == -1:
		return cat(append(timesOf(least-1, c), againOf(1, -1, c))...)
	case least == 0:
		return openingOf(most, c)
	}
	return cat(append(timesOf(least, c), openingOf(most-least, c))...)
}

func againOf(least, most int, c api.Expr) api.Expr {
	if least == 0 && most == 1 && nullable(c) {
		return c
	}
	if c.Op != api.OpRepeat {
		return times(c, least, most)
	}
	if c.Min == least && c.Max == most {
		return c
	}
	return times(c.Args[0], 0, -1)
}

func timesOf(n int, c api.Expr) []api.Expr {
	var l []api.Expr
	for range n {
		l = append(l, c)
	}
	return l
}

func openingOf(n int, c api.Expr) api.Expr {
	if n == 1 {
		return againOf(0, 1, c)
	}
	return againOf(0, 1, cat(c, openingOf(n-1, c)))
}

func nullable(c api.Expr) bool {
	some, all := false, true
	for _, a := range c.Args {
		n := nullable(a)
		some, all = some || n, all && n
	}
	switch c.Op {
	case api.OpEmpty:
		return true
	case api.OpCat:
		return all
	case api.OpAlt:
		return some
	case api.OpRepeat:
		return c.Min == 0 || all
	}
	return false
}

// words are those of an expression that have at most so many bytes.
func (m meanings) words(e api.Expr, long int) map[string]bool {
	out := map[string]bool{}
	switch e.Op {
	case api.OpEmpty:
		out[""] = true
	case api.OpSet:
		for _, b := range byteset.List(e.Set) {
			out[string([]byte{b})] = true
		}
	case api.OpWord:
		if len(e.Text) <= long {
			out[e.Text] = true
		}
	case api.OpRef:
		return m.words(m[e.Text], long)
	case api.OpCat:
		out[""] = true
		for _, a := range e.Args {
			out = joinedWords(out, m.words(a, long), long)
		}
	case api.OpAlt:
		for _, a := range e.Args {
			addWords(out, m.words(a, long))
		}
	case api.OpRepeat:
		return repeatedWords(m.words(e.Args[0], long), e.Min, e.Max, long)
	}
	return out
}

func joinedWords(a, b map[string]bool, long int) map[string]bool {
	out := map[string]bool{}
	for v := range a {
		for w := range b {
			if len(v)+len(w) <= long {
				out[v+w] = true
			}
		}
	}
	return out
}

func addWords(to, from map[string]bool) {
	for w := range from {
		to[w] = true
	}
}

func repeatedWords(w map[string]bool, least, most, long int) map[string]bool {
	now := map[string]bool{"": true}
	for range least {
		now = joinedWords(now, w, long)
	}
	out := map[string]bool{}
	addWords(out, now)
	// Of more than so many, all but long are empty, and bring nothing that fewer do not.
	for i := least; i != most && i <= least+long; i++ {
		now = joinedWords(now, w, long)
		addWords(out, now)
	}
	return out
}
