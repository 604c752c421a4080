package length

import (
	"bolter/api"
	"bolter/expand"
)

func coresMayBe(l []api.Core) bool {
	if len(l) > api.MaxRules {
		return false
	}
	for _, c := range l {
		if !expand.Check(c.Head) || !trailMayBe(c) {
			return false
		}
	}
	return true
}

func trailMayBe(c api.Core) bool {
	if c.HasTrail {
		return expand.Check(c.Trail)
	}
	return isZero(c.Trail)
}

func isZero(e api.Expr) bool {
	return e.Op == api.OpNone && e.At == 0 && e.Set == api.Set{} && e.Text == "" && e.Min == 0 && e.Max == 0 && len(e.Args) == 0
}
