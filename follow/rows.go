package follow

import (
	"bolter/api"
	"bolter/places"
)

// gather is where a row's places come together: the list is written over by the next row.
type gather struct {
	list [api.MaxPositions + 1]int
	n    int
}

func (g *gather) add(place int) {
	g.list[g.n] = place
	g.n++
}

// row begins with the positions, rising; end stands behind them, if it is among the places.
func (g *gather) row(to places.Set, ends bool, end int) []int {
	g.n = 0
	for p := range to.All {
		g.add(p)
	}
	if ends {
		g.add(end)
	}
	row := make([]int, g.n)
	copy(row, g.list[:])
	return row
}

// follow is what has been walked, as rows of places.
func (w *walk) follow() api.Follow {
	f := api.Follow{Sets: w.sets, Rules: w.owner}
	var g gather
	for rule, p := range w.rules {
		f.First = append(f.First, g.row(p.first, p.nullable, len(w.sets)+rule))
	}
	for p, to := range w.next {
		rule := w.owner[p]
		f.Next = append(f.Next, g.row(to, w.rules[rule].last.Has(p), len(w.sets)+rule))
	}
	return f
}
