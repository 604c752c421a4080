package witness

import "slices"

// bytes is how many there are: each leads on from each place.
const bytes = 256

// ground is what a search goes over, from place to place.
type ground[P any] interface {
	lead(from P, b int) P
	fresh(place P) bool // whether a place that was found is to be gone on from
}

// step is a place that was found, and how.
type step[P any] struct {
	place P
	from  int // where the one stands that leads to it; -1: it is what the search begins with
	by    byte
}

// search is a queue of places, in the order of the first words that lead to them.
type search[P any] struct {
	over ground[P]
	most int // no more places are fresh
	list []step[P]
}

func searchFrom[P any](first P, over ground[P], most int) *search[P] {
	s := &search[P]{over: over, most: most}
	s.put(first, -1, 0)
	return s
}

func (s *search[P]) put(place P, from int, by byte) {
	if s.over.fresh(place) {
		s.list = append(s.list, step[P]{place, from, by})
	}
}

// all goes through the places, and tells where in the queue each stands.
func (s *search[P]) all(yield func(at int, place P) bool) {
	for at := range s.most {
		if at == len(s.list) || !yield(at, s.list[at].place) {
			return
		}
		for b := range bytes {
			s.put(s.over.lead(s.list[at].place, b), at, byte(b))
		}
	}
}

// word is the first one that leads to a place, by where that stands in the queue.
func (s *search[P]) word(at int) []byte {
	var w []byte
	for x := s.list[at]; x.from >= 0; x = s.list[x.from] {
		w = append(w, x.by)
	}
	slices.Reverse(w)
	return w
}
