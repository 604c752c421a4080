package spec

import (
	"reflect"
	"strings"
	"testing"

	"bolter/api"
	"bolter/fault"
)

// Expressions, each with just the fields that its kind uses.

func empty(at int) api.Expr { return api.Expr{Op: api.OpEmpty, At: at} }

func set(at int, l string) api.Expr {
	e := api.Expr{Op: api.OpSet, At: at}
	for i := range len(l) {
		e.Set[l[i]/64] |= 1 << (l[i] % 64)
	}
	return e
}

func text(at int, s string) api.Expr { return api.Expr{Op: api.OpWord, At: at, Text: s} }
func ref(at int, s string) api.Expr  { return api.Expr{Op: api.OpRef, At: at, Text: s} }

func cat(args ...api.Expr) api.Expr {
	return api.Expr{Op: api.OpCat, At: args[0].At, Args: args}
}

func alt(args ...api.Expr) api.Expr {
	return api.Expr{Op: api.OpAlt, At: args[0].At, Args: args}
}

func times(at, least, most int, e api.Expr) api.Expr {
	return api.Expr{Op: api.OpRepeat, At: at, Min: least, Max: most, Args: []api.Expr{e}}
}

// nested is e in so many counts.
func nested(e api.Expr, deep int) api.Expr {
	for range deep {
		e = times(0, 0, -1, e)
	}
	return e
}

func defOf(e api.Expr) api.Spec {
	return api.Spec{Defs: []api.Def{{Name: "d", Expr: e}}}
}

func ruleOf(u api.Rule) api.Spec {
	return api.Spec{Rules: []api.Rule{u}}
}

// plain is a file with nil for each empty list, and all its lists its own.
func plain(s api.Spec) api.Spec {
	var p api.Spec
	p.Modes = append(p.Modes, s.Modes...)
	for _, d := range s.Defs {
		d.Expr = plainExpr(d.Expr)
		p.Defs = append(p.Defs, d)
	}
	for _, u := range s.Rules {
		u.Modes = append([]api.Use(nil), u.Modes...)
		u.Head, u.Trail = plainExpr(u.Head), plainExpr(u.Trail)
		u.Acts = append([]api.Act(nil), u.Acts...)
		p.Rules = append(p.Rules, u)
	}
	return p
}

func plainExpr(e api.Expr) api.Expr {
	args := e.Args
	e.Args = nil
	for _, arg := range args {
		e.Args = append(e.Args, plainExpr(arg))
	}
	return e
}

// equal is whether two files are one, places too.
func equal(a, b api.Spec) bool {
	return reflect.DeepEqual(plain(a), plain(b))
}

func wantFile(t *testing.T, s string, want api.Spec) {
	t.Helper()
	got, err := Parse(s)
	if err != nil || !equal(got, want) {
		t.Errorf("%.200q: %+v, %v; want %+v", s, got, err, want)
	}
}

// wantExpr asks for the expression of a definition behind eight bytes: "let d = ".
func wantExpr(t *testing.T, s string, want api.Expr) {
	t.Helper()
	w := defOf(want)
	w.Defs[0].At = 4
	wantFile(t, "let d = "+s, w)
}

// wantRefused asks for an error that says a code and a place and nothing else, and for nothing beside it.
func wantRefused(t *testing.T, s string, code, at int) {
	t.Helper()
	got, err := Parse(s)
	if f := fault.Tell(err); !reflect.DeepEqual(f, api.Fault{Code: code, At: at}) || !equal(got, api.Spec{}) {
		t.Errorf("%.200q: %+v, %+v; want code %d at %d", s, got, f, code, at)
	}
}

// wantPrint asks for a file's text, and that it is read as the same file.
func wantPrint(t *testing.T, s api.Spec, want string) {
	t.Helper()
	got, err := Print(s)
	if got != want || err != nil {
		t.Errorf("%.200q, %v; want %.200q", got, err, want)
	}
	again, err := Parse(got)
	if err != nil || !Same(again, s) {
		t.Errorf("%.200q read again: %.500v, %v; want %.500v", got, again, err, s)
	}
}

func wantNoPrint(t *testing.T, s api.Spec) {
	t.Helper()
	got, err := Print(s)
	if f := fault.Tell(err); got != "" || !reflect.DeepEqual(f, api.Fault{Code: api.CodeArg}) {
		t.Errorf("%.200q, %+v; want code %d", got, f, api.CodeArg)
	}
}

// chance is a plain row of numbers: the same at every run.
type chance uint64

func (c *chance) of(n int) int {
	*c = *c*6364136223846793005 + 1442695040888963407
	return int(uint64(*c) >> 33 % uint64(n))
}

// many is a text so many times.
func many(s string, n int) string { return strings.Repeat(s, n) }
