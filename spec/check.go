package spec

import (
	"bolter/api"
	"bolter/lex"
)

// maxNested is how deep expressions may stand in one another: all that Parse tells does.
const maxNested = 50 * api.MaxDeep

func fileMayBe(s api.Spec) bool {
	return len(s.Modes) <= api.MaxConds && every(s.Modes, modeMayBe) &&
		len(s.Defs) <= api.MaxDefs && every(s.Defs, defMayBe) &&
		len(s.Rules) <= api.MaxRules && every(s.Rules, ruleMayBe)
}

func every[T any](l []T, mayBe func(T) bool) bool {
	for _, x := range l {
		if !mayBe(x) {
			return false
		}
	}
	return true
}

func modeMayBe(m api.Mode) bool {
	return isName(m.Name) && isPlace(m.At)
}

func defMayBe(d api.Def) bool {
	return isName(d.Name) && isPlace(d.At) && exprMayBe(d.Expr, 0)
}

func ruleMayBe(u api.Rule) bool {
	return isPlace(u.At) && isName(u.Label) &&
		!(u.All && len(u.Modes) > 0) && every(u.Modes, useMayBe) &&
		exprMayBe(u.Head, 0) && trailMayBe(u) &&
		len(u.Acts) <= api.MaxActs && every(u.Acts, actMayBe)
}

func trailMayBe(u api.Rule) bool {
	if u.HasTrail {
		return exprMayBe(u.Trail, 0)
	}
	return u.Trail.At == 0 && sameExpr(u.Trail, api.Expr{})
}

func useMayBe(u api.Use) bool {
	return isName(u.Name) && isPlace(u.At)
}

func actMayBe(a api.Act) bool {
	switch a.Do {
	case api.ActBegin, api.ActPush:
		return useMayBe(a.Mode)
	case api.ActPop:
		return a.Mode == api.Use{}
	}
	return false
}

// exprMayBe is whether an expression may be that stands in so many others.
func exprMayBe(e api.Expr, around int) bool {
	if around == maxNested || !isPlace(e.At) || !fieldsMayBe(e) {
		return false
	}
	for _, arg := range e.Args {
		if !exprMayBe(arg, around+1) {
			return false
		}
	}
	return true
}

// fieldsMayBe asks what the kind of e uses, and clears it: all that is left is to be zero.
func fieldsMayBe(e api.Expr) bool {
	used := true
	switch e.Op {
	case api.OpEmpty:
	case api.OpSet:
		e.Set = api.Set{}
	case api.OpWord:
		used = e.Text != ""
		e.Text = ""
	case api.OpRef:
		used = isName(e.Text)
		e.Text = ""
	case api.OpCat, api.OpAlt:
		used = len(e.Args) >= 2
		e.Args = nil
	case api.OpRepeat:
		used = len(e.Args) == 1 && countMayBe(e.Min, e.Max)
		e.Min, e.Max, e.Args = 0, 0, nil
	default:
		return false
	}
	return used && sameExpr(e, api.Expr{Op: e.Op})
}

func countMayBe(least, most int) bool {
	return 0 <= least && least <= api.MaxNumber && (most == -1 || least <= most && most <= api.MaxNumber)
}

func isPlace(at int) bool {
	return 0 <= at && at <= api.MaxFile
}

// isName is whether all of a text is one name.
func isName(text string) bool {
	l, err := lex.Lex(text)
	return err == nil && len(l) == 1 && l[0].Kind == api.LexName && l[0].End-l[0].At == len(text)
}
