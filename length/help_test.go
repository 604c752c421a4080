package length_test

import (
	"errors"
	"fmt"
	"reflect"
	"slices"
	"testing"

	"bolter/api"
	"bolter/byteset"
	"bolter/expand"
	"bolter/fault"
	"bolter/length"
	"bolter/spec"
)

// coresOf tells the cores of a rule file.
func coresOf(t *testing.T, text string) []api.Core {
	t.Helper()
	s, err := spec.Parse(text)
	if err != nil {
		t.Fatalf("%q: %v", text, err)
	}
	l, err := expand.Expand(s)
	if err != nil {
		t.Fatalf("%q: %v", text, err)
	}
	return l
}

func empty() api.Expr               { return api.Expr{Op: api.OpEmpty} }
func set(bytes string) api.Expr     { return api.Expr{Op: api.OpSet, Set: byteset.Of([]byte(bytes)...)} }
func cat(args ...api.Expr) api.Expr { return api.Expr{Op: api.OpCat, Args: args} }
func alt(args ...api.Expr) api.Expr { return api.Expr{Op: api.OpAlt, Args: args} }
func star(e api.Expr) api.Expr      { return times(e, 0, -1) }
func plus(e api.Expr) api.Expr      { return times(e, 1, -1) }
func maybe(e api.Expr) api.Expr     { return times(e, 0, 1) }

func times(e api.Expr, least, most int) api.Expr {
	return api.Expr{Op: api.OpRepeat, Min: least, Max: most, Args: []api.Expr{e}}
}

// row is n times e, one behind the other.
func row(e api.Expr, n int) []api.Expr { return slices.Repeat([]api.Expr{e}, n) }

// nested is e in so many counts.
func nested(e api.Expr, deep, least, most int) api.Expr {
	for range deep {
		e = times(e, least, most)
	}
	return e
}

func rule(head api.Expr) api.Core { return api.Core{Head: head} }

func trailed(head, trail api.Expr) api.Core {
	return api.Core{Head: head, HasTrail: true, Trail: trail}
}

func noWords() api.Lengths              { return api.Lengths{None: true} }
func from(least, most int) api.Lengths  { return api.Lengths{Least: least, Most: most} }
func cutTrail(n int) api.Cut            { return api.Cut{Kind: api.CutTrail, N: n} }
func cutHead(n int) api.Cut             { return api.Cut{Kind: api.CutHead, N: n} }
func trailFault(rule int) api.Fault     { return api.Fault{Code: api.CodeTrail, Rule: rule} }
func argFault() api.Fault               { return api.Fault{Code: api.CodeArg} }
func isFault(e error, f api.Fault) bool { return reflect.DeepEqual(fault.Tell(e), f) }

func wantOf(t *testing.T, what any, e api.Expr, want api.Lengths) {
	t.Helper()
	if got, err := length.Of(e); got != want || err != nil {
		t.Errorf("%s: %+v, %v; want %+v", short(what), got, err, want)
	}
}

func wantCuts(t *testing.T, what any, l []api.Core, want ...api.Cut) {
	t.Helper()
	if got, err := length.Cuts(l); !slices.Equal(got, want) || err != nil {
		t.Errorf("%s: %+v, %v; want %+v", short(what), got, err, want)
	}
}

// wantNoCuts asks for an error that says just this, and for nothing beside it.
func wantNoCuts(t *testing.T, what any, l []api.Core, want api.Fault) {
	t.Helper()
	got, err := length.Cuts(l)
	if len(got) > 0 || !isFault(err, want) || !errors.Is(err, fault.Of(want.Code)) {
		t.Errorf("%s: %+v, %+v; want %+v", short(what), got, fault.Tell(err), want)
	}
}

// short is the beginning of what may be long.
func short(x any) string {
	text := fmt.Sprintf("%+v", x)
	return text[:min(len(text), 600)]
}

// notCores tells expressions that are no cores, from unlike causes.
func notCores() map[string]api.Expr {
	a := set("a")
	return map[string]api.Expr{
		"nothing": {}, "no kind": {Op: 8}, "a kind below 0": {Op: -1},
		"a word": {Op: api.OpWord, Text: "a"}, "a name": {Op: api.OpRef, Text: "a"},
		"a cat of one": cat(a), "a cat of none": cat(), "an alt of one": alt(a), "an alt of none": alt(),
		"a count of none": {Op: api.OpRepeat, Max: -1}, "a count of two": {Op: api.OpRepeat, Max: -1, Args: row(a, 2)},
		"0 to 0": times(a, 0, 0), "1 to 1": times(a, 1, 1), "0 to 2": times(a, 0, 2), "2 to -1": times(a, 2, -1), "-1 to -1": times(a, -1, -1),
		"a place": {Op: api.OpEmpty, At: 1}, "a set with a text": {Op: api.OpSet, Text: "a"}, "a set with arguments": {Op: api.OpSet, Args: row(a, 2)},
		"deep": nested(a, 1<<12, 0, 1), "in one": cat(a, alt(a, star(cat(a)))), "the last": cat(a, empty(), api.Expr{}),
		"2^16 and one": cat(row(a, 1<<16)...),
	}
}

// lens are the lengths of some words: bit n, if there is one of n bytes; longer ones are left out.
type lens uint64

const longest = 63

// lensOf reads the words' definition once more, one length at a time.
func lensOf(e api.Expr) lens {
	switch e.Op {
	case api.OpEmpty:
		return 1
	case api.OpSet:
		if byteset.Count(e.Set) == 0 {
			return 0
		}
		return 2
	case api.OpCat:
		l := lens(1)
		for _, a := range e.Args {
			l = l.then(lensOf(a))
		}
		return l
	case api.OpAlt:
		l := lens(0)
		for _, a := range e.Args {
			l |= lensOf(a)
		}
		return l
	}
	return repeated(lensOf(e.Args[0]), e.Min, e.Max)
}

func (l lens) then(m lens) lens {
	var both lens
	for n := range longest + 1 {
		if m>>n&1 == 1 {
			both |= l << n
		}
	}
	return both
}

// repeated is least to most rounds; what 64 rounds do not bring, no more rounds bring.
func repeated(l lens, least, most int) lens {
	if most == -1 {
		most = longest + 1
	}
	all, now := lens(0), lens(1)
	for n := range most + 1 {
		if n >= least {
			all |= now
		}
		now = now.then(l)
	}
	return all
}

// lengthsBy tells of a core of at most 31 positions what Of is to tell: where there is no longest word, one is longer than the positions, and no more than twice as long.
func lengthsBy(t *testing.T, e api.Expr) api.Lengths {
	t.Helper()
	size := expand.Size(e)
	if !expand.Check(e) || 2*size > longest {
		t.Fatalf("%s: %d positions", short(e), size)
	}
	w := api.Lengths{None: true}
	for n := range 2*size + 1 {
		if lensOf(e)>>n&1 == 1 {
			if w.None {
				w = api.Lengths{Least: n}
			}
			w.Most = n
		}
	}
	if w.Most > size {
		w.Most = -1
	}
	return w
}

// chance is a plain row of numbers: the same at every run.
type chance uint64

func (c *chance) of(n int) int {
	*c = *c*6364136223846793005 + 1442695040888963407
	return int(uint64(*c) >> 33 % uint64(n))
}

// core makes a core, of kinds that expand makes and of others.
func (c *chance) core(deep int) api.Expr {
	kind := c.of(10)
	if deep == 0 {
		kind = c.of(4)
	}
	switch kind {
	case 0:
		return empty()
	case 1, 2, 3:
		return set([]string{"", "a", "ab", "\x00\xff"}[c.of(4)])
	case 4, 5, 6:
		return cat(c.cores(deep - 1)...)
	case 7, 8:
		return alt(c.cores(deep - 1)...)
	}
	counts := [][2]int{{0, -1}, {1, -1}, {0, 1}}[c.of(3)]
	return times(c.core(deep-1), counts[0], counts[1])
}

func (c *chance) cores(deep int) []api.Expr {
	var l []api.Expr
	for range 2 + c.of(2) {
		l = append(l, c.core(deep))
	}
	return l
}

// rule makes a rule, mostly one that has a trail.
func (c *chance) rule(deep int) api.Core {
	head := c.core(deep)
	if c.of(4) == 0 {
		return rule(head)
	}
	return trailed(head, c.core(deep))
}

// small tells all cores of a few parts.
func small() []api.Expr {
	leaves := []api.Expr{empty(), set(""), set("a")}
	next := slices.Concat(counted(leaves), pairs(leaves, leaves))
	third := slices.Concat(counted(next), pairs(leaves, next), pairs(next, leaves), pairs(next, next))
	return slices.Concat(leaves, next, third, counted(third))
}

func counted(l []api.Expr) []api.Expr {
	var out []api.Expr
	for _, e := range l {
		out = append(out, star(e), plus(e), maybe(e))
	}
	return out
}

func pairs(l, m []api.Expr) []api.Expr {
	var out []api.Expr
	for _, e := range l {
		for _, f := range m {
			out = append(out, cat(e, f), alt(e, f))
		}
	}
	return out
}
