package samples

import (
	"slices"

	"bolter/api"
	"bolter/follow"
)

// Follow tells the automaton of positions of a rule file.
func Follow(text string) (api.Follow, error) {
	l, err := Cores(text)
	if err != nil {
		return api.Follow{}, err
	}
	return follow.Build(l)
}

// UpTo is the numbers from one to another, both too.
func UpTo(from, to int) []int {
	var l []int
	for n := from; n <= to; n++ {
		l = append(l, n)
	}
	return l
}

// RowPieces makes each row, and their list, a piece of a longer one, that has in it what may not be.
func RowPieces(rows [][]int) [][]int {
	rows = PieceOf(rows, []int{-9})
	for i, row := range rows {
		rows[i] = PieceOf(row, -9)
	}
	return rows
}

// RowLongs tells rows with what lies behind them.
func RowLongs(rows [][]int) [][]int {
	rows = slices.Clone(rows[:cap(rows)])
	for i, row := range rows {
		rows[i] = slices.Clone(row[:cap(row)])
	}
	return rows
}

// FollowPieces makes each list of an automaton a piece of a longer one.
func FollowPieces(f api.Follow) api.Follow {
	return api.Follow{Sets: PieceOf(f.Sets, api.Set{1}), Rules: PieceOf(f.Rules, -9), First: RowPieces(f.First), Next: RowPieces(f.Next)}
}

// FollowLongs tells an automaton with what lies behind its lists.
func FollowLongs(f api.Follow) api.Follow {
	return api.Follow{Sets: slices.Clone(f.Sets[:cap(f.Sets)]), Rules: slices.Clone(f.Rules[:cap(f.Rules)]), First: RowLongs(f.First), Next: RowLongs(f.Next)}
}

// DensePieces makes each list of an automaton a piece of a longer one.
func DensePieces(d api.Dense) api.Dense {
	return api.Dense{Next: RowPieces(d.Next), Label: PieceOf(d.Label, -9)}
}

// DenseLongs tells an automaton with what lies behind its lists.
func DenseLongs(d api.Dense) api.Dense {
	return api.Dense{Next: RowLongs(d.Next), Label: slices.Clone(d.Label[:cap(d.Label)])}
}
