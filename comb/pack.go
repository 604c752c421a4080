package comb

import (
	"slices"

	"bolter/api"
)

// packer is a comb that rows are laid into.
type packer struct {
	api.Comb
}

func combOf(next [][]int) api.Comb {
	p, t := packer{}, tableOf(next)
	var live [][]int
	for state := range next {
		to := t.defaultOf(state)
		p.Default, p.Base = append(p.Default, to), append(p.Base, 0)
		live = append(live, t.live(state, to))
	}
	for _, state := range fullestFirst(live) {
		p.lay(state, live[state], next[state])
	}
	return p.Comb
}

// fullestFirst tells the states by how many live entries they have: those that have few still fit into the gaps that the others leave.
func fullestFirst(live [][]int) []int {
	var l []int
	for state := range live {
		l = append(l, state)
	}
	slices.SortStableFunc(l, func(a, b int) int { return len(live[b]) - len(live[a]) })
	return l
}

// lay gives a row's live entries slots. What is laid stays, so a base below, at which they met another row's, is never free later.
func (p *packer) lay(state int, live, row []int) {
	p.Base[state] = p.lowest(live)
	for _, class := range live {
		p.put(p.Base[state]+class, state, row[class])
	}
}

// lowest tells the least base at which live entries meet no slot that is another row's: at the slots' end at last.
func (p *packer) lowest(live []int) int {
bases:
	for base := range p.Check {
		for _, class := range live {
			if p.taken(base + class) {
				continue bases
			}
		}
		return base
	}
	return len(p.Check)
}

func (p *packer) taken(at int) bool {
	return at < len(p.Check) && p.Check[at] != none
}

// put makes slots up to its own alone: so the last one is a live entry's.
func (p *packer) put(at, state, entry int) {
	for len(p.Check) <= at {
		p.Check, p.Next = append(p.Check, none), append(p.Next, none)
	}
	p.Check[at], p.Next[at] = state, entry
}
