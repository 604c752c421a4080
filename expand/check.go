package expand

import "bolter/api"

// How many expressions a core may have in all, and how many of them may stand in one another.
const (
	maxExprs  = 1 << 16
	maxNested = 1 << 12
)

// fieldsMayBe asks what the kind of e uses, and clears it: all that is left is to be zero.
func fieldsMayBe(e api.Expr) bool {
	used := true
	switch e.Op {
	case api.OpEmpty:
	case api.OpSet:
		e.Set = api.Set{}
	case api.OpCat, api.OpAlt:
		used = len(e.Args) >= 2
		e.Args = nil
	case api.OpRepeat:
		used = len(e.Args) == 1 && countMayBe(e.Min, e.Max)
		e.Min, e.Max, e.Args = 0, 0, nil
	default:
		return false
	}
	return used && e.At == 0 && e.Set == api.Set{} && e.Text == "" && e.Min == 0 && e.Max == 0 && len(e.Args) == 0
}

func countMayBe(least, most int) bool {
	switch least {
	case 0:
		return most == -1 || most == 1
	case 1:
		return most == -1
	}
	return false
}
