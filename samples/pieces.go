package samples

import (
	"slices"

	"bolter/api"
)

// PieceOf is a list that is a piece of a longer one.
func PieceOf[T any](l []T, behind T) []T {
	return append(slices.Clone(l), behind, behind, behind)[:len(l)]
}

// Pieces makes each list of an expression a piece of a longer one, that has in it what may not be.
func Pieces(e api.Expr) api.Expr {
	e.Args = PieceOf(e.Args, api.Expr{Op: -9})
	for i, a := range e.Args {
		e.Args[i] = Pieces(a)
	}
	return e
}

// Longs tells an expression with what lies behind its lists.
func Longs(e api.Expr) api.Expr {
	e.Args = slices.Clone(e.Args[:cap(e.Args)])
	for i, a := range e.Args {
		e.Args[i] = Longs(a)
	}
	return e
}

// Changed is the cores with other heads and trails.
func Changed(l []api.Core, change func(e api.Expr) api.Expr) []api.Core {
	l = slices.Clone(l)
	for i, c := range l {
		l[i].Head, l[i].Trail = change(c.Head), change(c.Trail)
	}
	return l
}
