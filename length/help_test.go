package length_test

import (
	"errors"
	"fmt"
	"reflect"
	"slices"
	"testing"

	"bolter/api"
	"bolter/byteset"
	"bolter/expand"
	"bolter/fault"
	"bolter/length"
	"bolter/samples"
)

// coresOf tells the cores of a rule file.
func coresOf(t *testing.T, text string) []api.Core {
	t.Helper()
	l, err := samples.Cores(text)
	if err != nil {
		t.Fatalf("%q: %v", text, err)
	}
	return l
}

// The parts of expressions, by short names.
var (
	empty, set, cat, alt     = samples.Empty, samples.Set, samples.Cat, samples.Alt
	star, plus, maybe, times = samples.Star, samples.Plus, samples.Maybe, samples.Times
	row, nested              = samples.Row, samples.Nested
	rule, trailed            = samples.Rule, samples.Trailed
)

func noWords() api.Lengths              { return api.Lengths{None: true} }
func from(least, most int) api.Lengths  { return api.Lengths{Least: least, Most: most} }
func cutTrail(n int) api.Cut            { return api.Cut{Kind: api.CutTrail, N: n} }
func cutHead(n int) api.Cut             { return api.Cut{Kind: api.CutHead, N: n} }
func trailFault(rule int) api.Fault     { return api.Fault{Code: api.CodeTrail, Rule: rule} }
func argFault() api.Fault               { return api.Fault{Code: api.CodeArg} }
func isFault(e error, f api.Fault) bool { return reflect.DeepEqual(fault.Tell(e), f) }

func wantOf(t *testing.T, what any, e api.Expr, want api.Lengths) {
	t.Helper()
	if got, err := length.Of(e); got != want || err != nil {
		t.Errorf("%s: %+v, %v; want %+v", short(what), got, err, want)
	}
}

func wantCuts(t *testing.T, what any, l []api.Core, want ...api.Cut) {
	t.Helper()
	if got, err := length.Cuts(l); !slices.Equal(got, want) || err != nil {
		t.Errorf("%s: %+v, %v; want %+v", short(what), got, err, want)
	}
}

// wantNoCuts asks for an error that says just this, and for nothing beside it.
func wantNoCuts(t *testing.T, what any, l []api.Core, want api.Fault) {
	t.Helper()
	got, err := length.Cuts(l)
	if len(got) > 0 || !isFault(err, want) || !errors.Is(err, fault.Of(want.Code)) {
		t.Errorf("%s: %+v, %+v; want %+v", short(what), got, fault.Tell(err), want)
	}
}

// short is the beginning of what may be long.
func short(x any) string {
	text := fmt.Sprintf("%+v", x)
	return text[:min(len(text), 600)]
}

// lens are the lengths of some words: bit n, if there is one of n bytes; longer ones are left out.
type lens uint64

const longest = 63

// lensOf reads the words' definition once more, one length at a time.
func lensOf(e api.Expr) lens {
	switch e.Op {
	case api.OpEmpty:
		return 1
	case api.OpSet:
		if byteset.Count(e.Set) == 0 {
			return 0
		}
		return 2
	case api.OpCat:
		l := lens(1)
		for _, a := range e.Args {
			l = l.then(lensOf(a))
		}
		return l
	case api.OpAlt:
		l := lens(0)
		for _, a := range e.Args {
			l |= lensOf(a)
		}
		return l
	}
	return repeated(lensOf(e.Args[0]), e.Min, e.Max)
}

func (l lens) then(m lens) lens {
	var both lens
	for n := range longest + 1 {
		if m>>n&1 == 1 {
			both |= l << n
		}
	}
	return both
}

// repeated is least to most rounds; what 64 rounds do not bring, no more rounds bring.
func repeated(l lens, least, most int) lens {
	if most == -1 {
		most = longest + 1
	}
	all, now := lens(0), lens(1)
	for n := range most + 1 {
		if n >= least {
			all |= now
		}
		now = now.then(l)
	}
	return all
}

// lengthsBy tells of a core of at most 31 positions what Of is to tell: where there is no longest word, one is longer than the positions, and no more than twice as long.
func lengthsBy(t *testing.T, e api.Expr) api.Lengths {
	t.Helper()
	size := expand.Size(e)
	if !expand.Check(e) || 2*size > longest {
		t.Fatalf("%s: %d positions", short(e), size)
	}
	w := api.Lengths{None: true}
	for n := range 2*size + 1 {
		if lensOf(e)>>n&1 == 1 {
			if w.None {
				w = api.Lengths{Least: n}
			}
			w.Most = n
		}
	}
	if w.Most > size {
		w.Most = -1
	}
	return w
}

// chance makes what tests are tried on of a row of numbers.
type chance struct{ samples.Chance }

func (c *chance) core(deep int) api.Expr {
	return c.Core(deep, "", "a", "ab", "\x00\xff")
}

// rule makes a rule, mostly one that has a trail.
func (c *chance) rule(deep int) api.Core {
	head := c.core(deep)
	if c.Of(4) == 0 {
		return rule(head)
	}
	return trailed(head, c.core(deep))
}

// small tells all cores of a few parts, and all these in counts.
func small() []api.Expr {
	l := samples.Small(empty(), set(""), set("a"))
	return slices.Concat(l, samples.Counted(l))
}
