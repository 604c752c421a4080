package expand

import (
	"slices"

	"bolter/api"
)

// counted is least to most times p; most is not 0.
func counted(p part, least, most int) part {
	switch {
	case isEmpty(p):
		return p
	case least == 0 && most == -1:
		return again(p, 0, -1)
	case most == -1:
		return cat(append(times(p, least-1), again(p, 1, -1)))
	case least == 0:
		return opening(p, most)
	case least == most:
		return cat(times(p, least))
	}
	return cat(append(times(p, least), opening(p, most-least)))
}

func times(p part, n int) []part {
	return slices.Repeat([]part{p}, n)
}

// opening is up to most times p: each one opens the way to the next.
func opening(p part, most int) part {
	o := again(p, 0, 1)
	for range most - 1 {
		o = again(cat([]part{p, o}), 0, 1)
	}
	return o
}

// again is an OpRepeat of p, but for one that would stand right in another, or say nothing new.
func again(p part, least, most int) part {
	c := p.core
	switch {
	case least == 0 && most == 1 && p.nullable:
		return p
	case c.Op == api.OpRepeat && c.Min == least && c.Max == most:
		return p
	case c.Op == api.OpRepeat:
		return repeat(c.Args[0], 0, -1, true)
	}
	return repeat(c, least, most, least == 0 || p.nullable)
}

func repeat(arg api.Expr, least, most int, nullable bool) part {
	return part{api.Expr{Op: api.OpRepeat, Min: least, Max: most, Args: []api.Expr{arg}}, nullable}
}
