package expand_test

import (
	"errors"
	"fmt"
	"reflect"
	"slices"
	"strconv"
	"strings"
	"testing"

	"bolter/api"
	"bolter/byteset"
	"bolter/class"
	"bolter/expand"
	"bolter/fault"
	"bolter/spec"
)

func parsed(t *testing.T, text string) api.Spec {
	t.Helper()
	s, err := spec.Parse(text)
	if err != nil {
		t.Fatalf("%.300q: %v", text, err)
	}
	return s
}

func empty() api.Expr               { return api.Expr{Op: api.OpEmpty} }
func set(bytes string) api.Expr     { return api.Expr{Op: api.OpSet, Set: byteset.Of([]byte(bytes)...)} }
func word(text string) api.Expr     { return api.Expr{Op: api.OpWord, Text: text} }
func ref(name string) api.Expr      { return api.Expr{Op: api.OpRef, Text: name} }
func cat(args ...api.Expr) api.Expr { return api.Expr{Op: api.OpCat, Args: args} }
func alt(args ...api.Expr) api.Expr { return api.Expr{Op: api.OpAlt, Args: args} }

func times(e api.Expr, least, most int) api.Expr {
	return api.Expr{Op: api.OpRepeat, Min: least, Max: most, Args: []api.Expr{e}}
}

// nested is e in so many counts.
func nested(e api.Expr, deep int) api.Expr {
	for range deep {
		e = times(e, 0, -1)
	}
	return e
}

func def(name string, e api.Expr) api.Def { return api.Def{Name: name, Expr: e} }
func rule(e api.Expr) api.Rule            { return api.Rule{Head: e, Label: "x"} }

func trailed(head, trail api.Expr) api.Rule {
	return api.Rule{Head: head, HasTrail: true, Trail: trail, Label: "x"}
}

// file has a rule for each expression.
func file(defs []api.Def, l ...api.Expr) api.Spec {
	s := api.Spec{Defs: defs}
	for _, e := range l {
		s.Rules = append(s.Rules, rule(e))
	}
	return s
}

// shown is an expression, short.
func shown(e api.Expr) string {
	var l []string
	for _, a := range e.Args {
		l = append(l, shown(a))
	}
	switch e.Op {
	case api.OpEmpty:
		return "()"
	case api.OpSet:
		if b := byteset.List(e.Set); len(b) == 1 && b[0] > ' ' && b[0] < 127 {
			return string(b)
		}
		return class.Text(e.Set)
	case api.OpCat:
		return "(" + strings.Join(l, " ") + ")"
	case api.OpAlt:
		return "(" + strings.Join(l, "|") + ")"
	case api.OpRepeat:
		return strings.Join(l, "!") + map[[2]int]string{{0, -1}: "*", {1, -1}: "+", {0, 1}: "?"}[[2]int{e.Min, e.Max}]
	}
	return "!"
}

// plain has nil for each empty list.
func plain(e api.Expr) api.Expr {
	var args []api.Expr
	for _, a := range e.Args {
		args = append(args, plain(a))
	}
	e.Args = args
	return e
}

func equal(a, b []api.Core) bool {
	return slices.EqualFunc(a, b, func(a, b api.Core) bool {
		return a.HasTrail == b.HasTrail && same(a.Head, b.Head) && same(a.Trail, b.Trail)
	})
}

func same(a, b api.Expr) bool { return reflect.DeepEqual(plain(a), plain(b)) }

// coreOf expands a file of one rule without a trail.
func coreOf(t *testing.T, s api.Spec) api.Expr {
	t.Helper()
	l, err := expand.Expand(s)
	if err != nil || len(l) != 1 || l[0].HasTrail || !same(l[0].Trail, api.Expr{}) {
		t.Fatalf("%s: %s, %v", short(s), short(l), err)
	}
	return l[0].Head
}

// short is the beginning of what may be long.
func short(x any) string {
	text := fmt.Sprintf("%+v", x)
	return text[:min(len(text), 600)]
}

// wantFault asks for an error that says just this, and for nothing beside it, of Expand, and of Sizes but of too many positions.
func wantFault(t *testing.T, what any, s api.Spec, want api.Fault) {
	t.Helper()
	cores, err := expand.Expand(s)
	if f := fault.Tell(err); !reflect.DeepEqual(f, want) || len(cores) > 0 || !errors.Is(err, fault.Of(want.Code)) {
		t.Errorf("%s: Expand: %d cores, %+v; want %+v", short(what), len(cores), f, want)
	}
	sizes, err := expand.Sizes(s)
	if want.Code == api.CodeTooManyPositions {
		want = api.Fault{}
		sizes = nil
	}
	if f := fault.Tell(err); !reflect.DeepEqual(f, want) || len(sizes) > 0 || !errors.Is(err, fault.Of(want.Code)) {
		t.Errorf("%s: Sizes: %v, %+v; want %+v", short(what), sizes, f, want)
	}
}

func wantSizes(t *testing.T, what any, s api.Spec, want ...int) {
	t.Helper()
	if got, err := expand.Sizes(s); err != nil || !slices.Equal(got, want) {
		t.Errorf("%s: %v, %v; want %v", short(what), got, err, want)
	}
}

// each visits an expression and all those in it.
func each(e api.Expr, visit func(e api.Expr)) {
	visit(e)
	for _, a := range e.Args {
		each(a, visit)
	}
}

func countOf(e api.Expr, ops ...int) int {
	n := 0
	each(e, func(e api.Expr) {
		if len(ops) == 0 || slices.Contains(ops, e.Op) {
			n++
		}
	})
	return n
}

func depth(e api.Expr) int {
	n := 0
	for _, a := range e.Args {
		n = max(n, depth(a))
	}
	return n + 1
}

// chance is a plain row of numbers: the same at every run.
type chance uint64

func (c *chance) of(n int) int {
	*c = *c*6364136223846793005 + 1442695040888963407
	return int(uint64(*c) >> 33 % uint64(n))
}

// expr makes an expression that uses definitions of lesser numbers than defs; counts up to most.
func (c *chance) expr(deep, defs, most int) api.Expr {
	kind := c.of(12)
	if deep == 0 {
		kind = c.of(5)
	}
	switch kind {
	case 0:
		return empty()
	case 1:
		return set([]string{"", "a", "ab", "c"}[c.of(4)])
	case 2:
		return word([]string{"a", "ab", "bca"}[c.of(3)])
	case 3, 4:
		if defs > 0 {
			return ref(defName(c.of(defs)))
		}
		return set("a")
	case 5, 6, 7:
		return cat(c.exprs(deep-1, defs, most)...)
	case 8, 9:
		return alt(c.exprs(deep-1, defs, most)...)
	}
	e := c.expr(deep-1, defs, most)
	least := c.of(most + 1)
	return [...]api.Expr{times(e, 0, -1), times(e, 1, -1), times(e, 0, 1), times(e, least, least), times(e, least, -1), times(e, least, least+c.of(most+1-least)), times(e, 0, least)}[c.of(7)]
}

func (c *chance) exprs(deep, defs, most int) []api.Expr {
	var l []api.Expr
	for range 2 + c.of(2) {
		l = append(l, c.expr(deep, defs, most))
	}
	return l
}

func defName(i int) string { return "d" + strconv.Itoa(i) }

// file makes definitions, those that use others behind or ahead of them, and rules.
func (c *chance) file(deep, most int) api.Spec {
	var s api.Spec
	for i := range c.of(5) {
		s.Defs = append(s.Defs, def(defName(i), c.expr(deep, i, most)))
	}
	n := len(s.Defs)
	if c.of(2) == 0 {
		slices.Reverse(s.Defs)
	}
	for range c.of(4) {
		u := rule(c.expr(deep, n, most))
		if c.of(3) == 0 {
			u = trailed(u.Head, c.expr(deep, n, most))
		}
		s.Rules = append(s.Rules, u)
	}
	return s
}
