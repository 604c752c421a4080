package follow_test

import (
	"errors"
	"fmt"
	"reflect"
	"slices"
	"testing"

	"bolter/api"
	"bolter/byteset"
	"bolter/fault"
	"bolter/follow"
	"bolter/samples"
)

// The parts of expressions, by short names.
var (
	empty, set, cat, alt = samples.Empty, samples.Set, samples.Cat, samples.Alt
	star, plus, maybe    = samples.Star, samples.Plus, samples.Maybe
	row, nested          = samples.Row, samples.Nested
	rule, trailed        = samples.Rule, samples.Trailed
	upTo                 = samples.UpTo
)

// coresOf tells the cores of a rule file.
func coresOf(t *testing.T, text string) []api.Core {
	t.Helper()
	l, err := samples.Cores(text)
	if err != nil {
		t.Fatalf("%q: %v", text, err)
	}
	return l
}

// built tells the automaton of cores; it may be, and reads the bytes of their sets from left to right.
func built(t *testing.T, what any, l []api.Core) api.Follow {
	t.Helper()
	f, err := follow.Build(l)
	if err != nil {
		t.Fatalf("%s: %v", short(what), err)
	}
	if !follow.Check(f) {
		t.Fatalf("%s: %s may not be", short(what), short(f))
	}
	var sets []api.Set
	for _, c := range l {
		sets = append(sets, setsOf(c.Head)...)
		sets = append(sets, setsOf(c.Trail)...)
	}
	if !slices.Equal(f.Sets, sets) {
		t.Fatalf("%s: the bytes are %s, want %s", short(what), short(f.Sets), short(sets))
	}
	return f
}

// wantRows asks for an automaton's Rules, First and Next, as they print.
func wantRows(t *testing.T, what any, l []api.Core, want string) {
	t.Helper()
	if got := rowsOf(built(t, what, l)); got != want {
		t.Errorf("%s: %s, want %s", short(what), got, want)
	}
}

func rowsOf(f api.Follow) string {
	return fmt.Sprint(f.Rules, f.First, f.Next)
}

// wantFault asks for an error that says just its code, and for nothing beside it.
func wantFault(t *testing.T, what any, l []api.Core, code int) {
	t.Helper()
	f, err := follow.Build(l)
	if !isNothing(f) || !reflect.DeepEqual(fault.Tell(err), api.Fault{Code: code}) || !errors.Is(err, fault.Of(code)) {
		t.Errorf("%s: %s, %+v", short(what), short(f), fault.Tell(err))
	}
}

func isNothing(f api.Follow) bool {
	return len(f.Sets) == 0 && len(f.Rules) == 0 && len(f.First) == 0 && len(f.Next) == 0
}

func setsOf(e api.Expr) []api.Set {
	if e.Op == api.OpSet {
		return []api.Set{e.Set}
	}
	var sets []api.Set
	for _, a := range e.Args {
		sets = append(sets, setsOf(a)...)
	}
	return sets
}

// short is the beginning of what may be long.
func short(x any) string {
	text := fmt.Sprintf("%+v", x)
	return text[:min(len(text), 600)]
}

// takes follows the places of a rule over a text, as P10.4 says.
func takes(f api.Follow, rule int, text string) bool {
	now := f.First[rule]
	for i := range len(text) {
		var next []int
		for _, p := range now {
			if p < len(f.Sets) && byteset.Has(f.Sets[p], text[i]) {
				next = append(next, f.Next[p]...)
			}
		}
		slices.Sort(next)
		now = slices.Compact(next)
	}
	return slices.Contains(now, len(f.Sets)+rule)
}

// chance makes what tests are tried on of a row of numbers.
type chance struct{ samples.Chance }

func (c *chance) core(deep int) api.Expr {
	return c.Core(deep, "", "a", "b", "ab", "a\x00", "b\xff")
}

func (c *chance) rules(deep int) []api.Core {
	return c.Rules(3, deep, "", "a", "b", "ab", "a\x00", "b\xff")
}

func small() []api.Expr {
	return samples.Small(empty(), set(""), set("a"), set("ab"))
}
