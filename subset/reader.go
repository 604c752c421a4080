package subset

import (
	"bolter/api"
	"bolter/byteset"
	"bolter/places"
)

const (
	rowLength = 256 // a state for each byte
	none      = -1  // the label of what no rule takes
)

// reader is an automaton of positions, as sets of places.
type reader struct {
	first []places.Set          // of each rule
	next  []places.Set          // of each position
	reads [rowLength]places.Set // of each byte the positions that read it
	like  [rowLength]int        // of each byte the least one that the same positions read
}

func readerOf(f api.Follow) reader {
	r := reader{first: setsOf(f.First), next: setsOf(f.Next)}
	for p, set := range f.Sets {
		for _, b := range byteset.List(set) {
			r.reads[b] = r.reads[b].With(places.Of(p))
		}
	}
	for b := range r.like {
		r.like[b] = r.likeOf(b)
	}
	return r
}

func setsOf(rows [][]int) []places.Set {
	var l []places.Set
	for _, row := range rows {
		l = append(l, places.Of(row...))
	}
	return l
}

func (r *reader) likeOf(b int) int {
	least := 0
	for r.reads[least] != r.reads[b] {
		least++
	}
	return least
}

func (r *reader) start(active []int) places.Set {
	var s places.Set
	for _, rule := range active {
		s = s.With(r.first[rule])
	}
	return s
}

func (r *reader) lead(from places.Set, b int) places.Set {
	var to places.Set
	for p := range from.Both(r.reads[b]).All {
		to = to.With(r.next[p])
	}
	return to
}

// label is the rule of the first end, since ends stand in the order of their rules, behind all positions.
func (r *reader) label(s places.Set) int {
	for p := range s.All {
		if p >= len(r.next) {
			return p - len(r.next)
		}
	}
	return none
}
