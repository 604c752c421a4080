// Package cores: whether the cores of rules may be: what each layer asks that is handed some.
package cores

import (
	"bolter/api"
	"bolter/expand"
)

// MayBe asks that there are at most MaxRules, each with a core as its head, and as its trail, if it has one; else its trail is the zero Expr.
func MayBe(l []api.Core) bool {
	if len(l) > api.MaxRules {
		return false
	}
	for _, c := range l {
		if !expand.Check(c.Head) || !trailMayBe(c) {
			return false
		}
	}
	return true
}

func trailMayBe(c api.Core) bool {
	if c.HasTrail {
		return expand.Check(c.Trail)
	}
	return isZero(c.Trail)
}

func isZero(e api.Expr) bool {
	return e.Op == api.OpNone && e.At == 0 && e.Set == api.Set{} && e.Text == "" && e.Min == 0 && e.Max == 0 && len(e.Args) == 0
}
