package spec

import (
	"slices"

	"bolter/api"
)

// What is left without places, and whether two are the same without them.

// each tells a list of its own with what is made of each one.
func each[T any](l []T, change func(T) T) []T {
	var out []T
	for _, x := range l {
		out = append(out, change(x))
	}
	return out
}

func bareMode(m api.Mode) api.Mode {
	m.At = 0
	return m
}

func bareUse(u api.Use) api.Use {
	u.At = 0
	return u
}

func bareAct(a api.Act) api.Act {
	a.Mode.At = 0
	return a
}

func bareDef(d api.Def) api.Def {
	d.At = 0
	d.Expr = bareExpr(d.Expr)
	return d
}

func bareRule(u api.Rule) api.Rule {
	u.At = 0
	u.Modes = each(u.Modes, bareUse)
	u.Head = bareExpr(u.Head)
	u.Trail = bareExpr(u.Trail)
	u.Acts = each(u.Acts, bareAct)
	return u
}

func bareExpr(e api.Expr) api.Expr {
	e.At = 0
	e.Args = each(e.Args, bareExpr)
	return e
}

func sameMode(a, b api.Mode) bool { return bareMode(a) == bareMode(b) }
func sameUse(a, b api.Use) bool   { return bareUse(a) == bareUse(b) }
func sameAct(a, b api.Act) bool   { return bareAct(a) == bareAct(b) }

func sameDef(a, b api.Def) bool {
	return a.Name == b.Name && sameExpr(a.Expr, b.Expr)
}

func sameRule(a, b api.Rule) bool {
	return a.All == b.All && slices.EqualFunc(a.Modes, b.Modes, sameUse) &&
		sameExpr(a.Head, b.Head) &&
		a.HasTrail == b.HasTrail && sameExpr(a.Trail, b.Trail) &&
		a.Label == b.Label && slices.EqualFunc(a.Acts, b.Acts, sameAct)
}

// sameExpr goes down the expressions as they are: copies of them without places would take memory for an answer of one bit.
func sameExpr(a, b api.Expr) bool {
	return a.Op == b.Op && a.Set == b.Set && a.Text == b.Text && a.Min == b.Min && a.Max == b.Max &&
		slices.EqualFunc(a.Args, b.Args, sameExpr)
}
