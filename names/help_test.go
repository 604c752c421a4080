package names

import (
	"errors"
	"reflect"
	"slices"
	"strconv"
	"testing"

	"bolter/api"
	"bolter/fault"
	"bolter/spec"
)

func parsed(t *testing.T, text string) api.Spec {
	t.Helper()
	s, err := spec.Parse(text)
	if err != nil {
		t.Fatalf("%q: %v", text, err)
	}
	return s
}

func empty() api.Expr               { return api.Expr{Op: api.OpEmpty} }
func ref(name string) api.Expr      { return api.Expr{Op: api.OpRef, Text: name} }
func cat(args ...api.Expr) api.Expr { return api.Expr{Op: api.OpCat, Args: args} }
func alt(args ...api.Expr) api.Expr { return api.Expr{Op: api.OpAlt, Args: args} }
func star(e api.Expr) api.Expr {
	return api.Expr{Op: api.OpRepeat, Max: -1, Args: []api.Expr{e}}
}

func refAt(at int, name string) api.Expr { return api.Expr{Op: api.OpRef, At: at, Text: name} }

// plain has nil for each empty list.
func plain(n api.Names) api.Names {
	p := api.Names{Modes: append([]string(nil), n.Modes...), Order: append([]int(nil), n.Order...)}
	for _, l := range n.Active {
		p.Active = append(p.Active, append([]int(nil), l...))
	}
	for _, l := range n.Acts {
		p.Acts = append(p.Acts, append([]api.Step(nil), l...))
	}
	return p
}

func equal(a, b api.Names) bool {
	return reflect.DeepEqual(plain(a), plain(b))
}

func wantNames(t *testing.T, what any, s api.Spec, want api.Names) {
	t.Helper()
	got, err := Resolve(s)
	if err != nil || !equal(got, want) {
		t.Errorf("%.300v: %+v, %v; want %+v", what, got, err, want)
	}
}

// wantFault asks for an error that says just this, and for nothing beside it.
func wantFault(t *testing.T, what any, s api.Spec, want api.Fault) {
	t.Helper()
	got, err := Resolve(s)
	if f := fault.Tell(err); !reflect.DeepEqual(f, want) || !equal(got, api.Names{}) || !errors.Is(err, fault.Of(want.Code)) {
		t.Errorf("%.300v: %+v, %+v; want %+v", what, got, f, want)
	}
}

func misnamedAt(at int, name string) api.Fault {
	return api.Fault{Code: api.CodeName, At: at, Names: []string{name}}
}

func cycleOf(names ...string) api.Fault {
	return api.Fault{Code: api.CodeDefCycle, Names: names}
}

func wantUses(t *testing.T, what any, e api.Expr, want ...string) {
	t.Helper()
	if got := Uses(e); !slices.Equal(got, want) {
		t.Errorf("%.300v: %.300q, want %.300q", what, got, want)
	}
}

// nested is e in so many counts.
func nested(e api.Expr, deep int) api.Expr {
	for range deep {
		e = star(e)
	}
	return e
}

// numbered tells count names that stand in another order than their numbers.
func numbered(count int) []string {
	var l []string
	for i := range count {
		l = append(l, "d"+strconv.Itoa(count-1-i))
	}
	return l
}

// chance is a plain row of numbers: the same at every run.
type chance uint64

func (c *chance) of(n int) int {
	*c = *c*6364136223846793005 + 1442695040888963407
	return int(uint64(*c) >> 33 % uint64(n))
}

// acts makes some actions, to modes as use tells them.
func (c *chance) acts(count int, use func() api.Use) []api.Act {
	var l []api.Act
	for range count {
		a := api.Act{Do: 1 + c.of(3)}
		if a.Do != api.ActPop {
			a.Mode = use()
		}
		l = append(l, a)
	}
	return l
}
