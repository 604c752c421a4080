package rows

import "bolter/api"

// living is the states of an automaton that are found not to be dead.
type living struct {
	is    []bool // of each state
	found []int
}

func (l *living) put(state int) {
	if !l.is[state] {
		l.is[state] = true
		l.found = append(l.found, state)
	}
}

// livingOf tells of each state whether it is not dead: it goes back from those that have a label.
func livingOf(d api.Dense) []bool {
	l := living{is: make([]bool, len(d.Next))}
	for state, label := range d.Label {
		if label != none {
			l.put(state)
		}
	}
	from := sources(d.Next)
	for i := 0; i < len(l.found); i++ {
		for _, state := range from[l.found[i]] {
			l.put(state)
		}
	}
	return l.is
}

// sources tells of each state those that lead to it, each once.
func sources(next [][]int) [][]int {
	from := make([][]int, len(next))
	for state, row := range next {
		for _, to := range row {
			if last := len(from[to]) - 1; last < 0 || from[to][last] != state {
				from[to] = append(from[to], state)
			}
		}
	}
	return from
}
