package comb

// table is the rows of a table, and the row that a state without a default is held against.
type table struct {
	next    [][]int
	nowhere []int
}

func tableOf(next [][]int) table {
	t := table{next: next}
	for range next[0] {
		t.nowhere = append(t.nowhere, none)
	}
	return t
}

func (t table) row(state int) []int {
	if state == none {
		return t.nowhere
	}
	return t.next[state]
}

// defaultOf tells which state below leaves a state the fewest live entries: the first of those that do; none, if having none leaves it as few.
func (t table) defaultOf(state int) int {
	best, fewest := none, unlike(t.next[state], t.nowhere)
	for below := range state {
		if n := unlike(t.next[state], t.next[below]); n < fewest {
			best, fewest = below, n
		}
	}
	return best
}

// live tells the classes, rising, whose entries a state does not have from its default.
func (t table) live(state, to int) []int {
	var l []int
	other := t.row(to)
	for class, entry := range t.next[state] {
		if entry != other[class] {
			l = append(l, class)
		}
	}
	return l
}

func unlike(a, b []int) int {
	n := 0
	for class, entry := range a {
		if entry != b[class] {
			n++
		}
	}
	return n
}
