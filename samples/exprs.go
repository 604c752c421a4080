// Package samples: expressions, cores, automata, tables and combs that tests are tried on; the program itself has no use for it.
package samples

import (
	"slices"

	"bolter/api"
	"bolter/byteset"
)

func Empty() api.Expr               { return api.Expr{Op: api.OpEmpty} }
func Set(bytes string) api.Expr     { return api.Expr{Op: api.OpSet, Set: byteset.Of([]byte(bytes)...)} }
func Cat(args ...api.Expr) api.Expr { return api.Expr{Op: api.OpCat, Args: args} }
func Alt(args ...api.Expr) api.Expr { return api.Expr{Op: api.OpAlt, Args: args} }
func Star(e api.Expr) api.Expr      { return Times(e, 0, -1) }
func Plus(e api.Expr) api.Expr      { return Times(e, 1, -1) }
func Maybe(e api.Expr) api.Expr     { return Times(e, 0, 1) }

func Times(e api.Expr, least, most int) api.Expr {
	return api.Expr{Op: api.OpRepeat, Min: least, Max: most, Args: []api.Expr{e}}
}

// Row is n times e, one behind the other.
func Row(e api.Expr, n int) []api.Expr {
	return slices.Repeat([]api.Expr{e}, n)
}

// Nested is e in so many counts.
func Nested(e api.Expr, deep, least, most int) api.Expr {
	for range deep {
		e = Times(e, least, most)
	}
	return e
}

func Rule(head api.Expr) api.Core {
	return api.Core{Head: head}
}

func Trailed(head, trail api.Expr) api.Core {
	return api.Core{Head: head, HasTrail: true, Trail: trail}
}

// NotCores tells expressions that are no cores, from unlike causes.
func NotCores() map[string]api.Expr {
	a := Set("a")
	return map[string]api.Expr{
		"nothing": {}, "no kind": {Op: 8}, "a kind below 0": {Op: -1},
		"a word": {Op: api.OpWord, Text: "a"}, "a name": {Op: api.OpRef, Text: "a"},
		"a cat of one": Cat(a), "a cat of none": Cat(), "an alt of one": Alt(a), "an alt of none": Alt(),
		"a count of none": {Op: api.OpRepeat, Max: -1}, "a count of two": {Op: api.OpRepeat, Max: -1, Args: Row(a, 2)},
		"0 to 0": Times(a, 0, 0), "1 to 1": Times(a, 1, 1), "0 to 2": Times(a, 0, 2), "2 to -1": Times(a, 2, -1), "-1 to -1": Times(a, -1, -1),
		"a place": {Op: api.OpEmpty, At: 1}, "a set with a text": {Op: api.OpSet, Text: "a"}, "a set with arguments": {Op: api.OpSet, Args: Row(a, 2)},
		"deep": Nested(a, 1<<12, 0, 1), "in one": Cat(a, Alt(a, Star(Cat(a)))), "the last": Cat(a, Empty(), api.Expr{}), "behind no words": Cat(Set(""), api.Expr{}),
		"2^16 and one": Cat(Row(a, 1<<16)...),
	}
}

// NotNone tells expressions that are not the zero Expr: no rule without a trail may have one as its Trail.
func NotNone() []api.Expr {
	return []api.Expr{
		Empty(), Set(""), Set("a"), Star(Set("a")), Cat(Set("a"), Set("b")), {Op: -1}, {At: 1}, {At: -1},
		{Set: api.Set{1}}, {Set: api.Set{0, 1}}, {Set: api.Set{0, 0, 1}}, {Set: api.Set{0, 0, 0, 1 << 63}},
		{Text: "a"}, {Text: "\x00"}, {Min: 1}, {Min: -1}, {Max: 1}, {Max: -1}, {Args: []api.Expr{{}}},
	}
}

// Small tells all cores of a few parts, put together of these.
func Small(leaves ...api.Expr) []api.Expr {
	next := slices.Concat(Counted(leaves), Pairs(leaves, leaves))
	third := slices.Concat(Counted(next), Pairs(leaves, next), Pairs(next, leaves), Pairs(next, next))
	return slices.Concat(leaves, next, third)
}

// Counted is each expression in each of the counts that a core may have.
func Counted(l []api.Expr) []api.Expr {
	var out []api.Expr
	for _, e := range l {
		out = append(out, Star(e), Plus(e), Maybe(e))
	}
	return out
}

// Pairs is each of l with each of m, one behind the other, and beside it.
func Pairs(l, m []api.Expr) []api.Expr {
	var out []api.Expr
	for _, e := range l {
		for _, f := range m {
			out = append(out, Cat(e, f), Alt(e, f))
		}
	}
	return out
}
