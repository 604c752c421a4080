package rows

import "bolter/api"

// wide is a table that is not by classes yet: its rows have an entry for each byte.
type wide struct {
	starts []int
	next   [][]int
	label  []int
}

// put puts an automaton's states behind those that are there.
func (w *wide) put(d api.Dense) {
	first, alive := len(w.next), livingOf(d)
	entries, kept := entriesFrom(first, alive)
	w.starts = append(w.starts, first)
	for _, state := range kept {
		row := make([]int, bytes)
		for b, to := range d.Next[state] {
			row[b] = entries[to]
		}
		w.next, w.label = append(w.next, row), append(w.label, d.Label[state])
	}
}

// entriesFrom tells of each state its number, from first on, or none, if it is dead; and the states that the table has.
// The start has a number, dead or not: but where it is dead, no entry tells it.
func entriesFrom(first int, alive []bool) (entries, kept []int) {
	for state, lives := range alive {
		entry := none
		if lives {
			entry = first + len(kept)
		}
		if lives || state == start {
			kept = append(kept, state)
		}
		entries = append(entries, entry)
	}
	return entries, kept
}
