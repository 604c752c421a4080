package census

import (
	"slices"

	"bolter/api"
)

// bytes is how many there are: each leads on from each state.
const bytes = 256

// table tells how many words of each length lead from each state to states of a label.
type table struct {
	next  [][]int
	from  [][api.MaxWord + 1]count // of each state, by the words' lengths
	known int                      // the greatest length whose words are counted
}

func tableOf(d api.Dense, label int) *table {
	t := table{next: d.Next, from: make([][api.MaxWord + 1]count, len(d.Next))}
	for state := range t.from {
		t.from[state][0] = exactly(0)
		if d.Label[state] == label {
			t.from[state][0] = exactly(1)
		}
	}
	return &t
}

// words tells how many words of a length there are. Each length is counted when it is asked for: a place is mostly found among short words.
func (t *table) words(length int) count {
	for t.known < length {
		t.known++
		for state := range t.from {
			sum := exactly(0)
			t.below(state, bytes, t.known, sum.add)
			t.from[state][t.known] = sum
		}
	}
	return t.from[start][length]
}

// below tells, of each byte below b, how many words of a length lead on from a state by it.
func (t *table) below(state, b, length int, tell func(c count)) {
	for _, to := range t.next[state][:b] {
		tell(t.from[to][length-1])
	}
}

func (t *table) nth(k place) ([]byte, bool) {
	for length := range api.MaxWord + 1 {
		if k.within(t.words(length)) {
			return t.word(length, k), true
		}
	}
	return nil, false
}

// word tells the one at a place among the words of a length, of which there are more than that.
func (t *table) word(length int, k place) []byte {
	var w []byte
	state := start
	for left := length - 1; left >= 0; left-- {
		b := slices.IndexFunc(t.next[state], func(to int) bool { return k.within(t.from[to][left]) })
		w, state = append(w, byte(b)), t.next[state][b]
	}
	return w
}

// rank tells how many words stand ahead of this one, and whether it is one of them.
func (t *table) rank(w []byte) (count, bool) {
	sum := exactly(0)
	for length := range w {
		sum.add(t.words(length))
	}
	state := start
	for i, b := range w {
		t.below(state, int(b), len(w)-i, sum.add)
		state = t.next[state][b]
	}
	return sum, t.from[state][0] != exactly(0)
}
