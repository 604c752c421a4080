package witness

import (
	"slices"

	"bolter/api"
)

// pair is two states that one word leads to.
type pair struct {
	a, b int
}

// pairs is those of an automaton. The states of a pair that was found are in one group from then on.
type pairs struct {
	next  [][]int
	group []int // of each state one of its group that stands for more of them; itself, if it stands for all
}

func pairsOf(next [][]int) *pairs {
	p := pairs{next: next}
	for state := range next {
		p.group = append(p.group, state)
	}
	return &p
}

func (p *pairs) lead(from pair, b int) pair {
	return pair{p.next[from.a][b], p.next[from.b][b]}
}

// fresh passes over two states of one group. Pairs that were found by earlier words lead from the one to the other, pair by pair:
// what tells the two apart tells one of those pairs apart, so the first word never goes by these two.
func (p *pairs) fresh(found pair) bool {
	a, b := p.head(found.a), p.head(found.b)
	p.group[a] = b
	return a != b
}

// head is the one that stands for all of a state's group.
func (p *pairs) head(state int) int {
	for p.group[state] != state {
		p.group[state] = p.group[p.group[state]]
		state = p.group[state]
	}
	return state
}

// apart tells the first word that tells a pair apart. Each pair that is gone on from joins two groups: there are fewer of them than states.
func apart(d api.Dense, first pair) ([]byte, bool) {
	s := searchFrom(first, pairsOf(d.Next), len(d.Next))
	for at, found := range s.all {
		if d.Label[found.a] != d.Label[found.b] {
			return s.word(at), true
		}
	}
	return nil, false
}

// joined is both automata side by side, as one: b's states stand behind a's.
func joined(a, b api.Dense) api.Dense {
	d := api.Dense{Next: slices.Clone(a.Next), Label: slices.Concat(a.Label, b.Label)}
	for _, row := range b.Next {
		moved := slices.Clone(row)
		for i := range moved {
			moved[i] += len(a.Next)
		}
		d.Next = append(d.Next, moved)
	}
	return d
}
