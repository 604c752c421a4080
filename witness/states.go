package witness

import "bolter/api"

const (
	start = 0  // the state that the empty word leads to
	none  = -1 // the label of what no rule takes
)

// states is those of an automaton, each gone on from when it is found for the first time.
type states struct {
	next  [][]int
	known []bool
}

func (s *states) lead(from, b int) int {
	return s.next[from][b]
}

func (s *states) fresh(state int) bool {
	known := s.known[state]
	s.known[state] = true
	return !known
}

func reached(d api.Dense) *search[int] {
	return searchFrom(start, &states{d.Next, make([]bool, len(d.Next))}, len(d.Next))
}

// firsts tells of each label that is one behind some word the first such word.
func firsts(d api.Dense) map[int][]byte {
	words := map[int][]byte{}
	s := reached(d)
	for at, state := range s.all {
		if _, ok := words[d.Label[state]]; !ok {
			words[d.Label[state]] = s.word(at)
		}
	}
	return words
}

func never(l []api.Dense, rules int) []int {
	is := matched(l)
	var out []int
	for rule := range rules {
		if !is[rule] {
			out = append(out, rule)
		}
	}
	return out
}

// matched tells of each rule whether it is the label behind a word that is not empty: behind such a word is just what reached states lead to.
func matched(l []api.Dense) [api.MaxRules]bool {
	var is [api.MaxRules]bool
	for _, d := range l {
		for _, state := range reached(d).all {
			for _, to := range d.Next[state] {
				if label := d.Label[to]; label != none {
					is[label] = true
				}
			}
		}
	}
	return is
}
