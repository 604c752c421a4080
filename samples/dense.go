package samples

import (
	"math"
	"slices"
	"strconv"
	"strings"

	"bolter/api"
	"bolter/follow"
	"bolter/subset"
)

// Dense tells the automaton of cores, as a mode with these active rules has it.
func Dense(l []api.Core, active ...int) (api.Dense, error) {
	f, err := follow.Build(l)
	if err != nil {
		return api.Dense{}, err
	}
	return subset.Build(f, active)
}

// Two is an automaton of two states: by a to the other one, by all others to itself.
func Two() api.Dense {
	d := api.Dense{Next: [][]int{make([]int, 256), slices.Repeat([]int{1}, 256)}, Label: []int{-1, 7}}
	d.Next[0]['a'], d.Next[1]['a'] = 1, 0
	return d
}

// States is an automaton of so many, each of which leads to the one behind it, the last to itself.
func States(n int) api.Dense {
	var d api.Dense
	for s := range n {
		d.Next = append(d.Next, slices.Repeat([]int{min(s+1, n-1)}, 256))
		d.Label = append(d.Label, s%201-1)
	}
	return d
}

// Ring is an automaton of so many, each of which leads by all bytes to the one behind it, the last to the first.
func Ring(states int, label func(s int) int) api.Dense {
	var d api.Dense
	for s := range states {
		d.Next = append(d.Next, slices.Repeat([]int{(s + 1) % states}, 256))
		d.Label = append(d.Label, label(s))
	}
	return d
}

// ByTwo is an automaton whose states lead by all bytes but a to one state, by a to another.
func ByTwo(labels []int, to ...[2]int) api.Dense {
	d := api.Dense{Label: labels}
	for _, x := range to {
		row := slices.Repeat([]int{x[0]}, 256)
		row['a'] = x[1]
		d.Next = append(d.Next, row)
	}
	return d
}

// AllDense goes through all automata of so many states, with two bytes that may lead apart, and so many labels from -1 on.
func AllDense(states, labels int, visit func(d api.Dense)) {
	l, to := make([]int, states), make([][2]int, states)
	var fill func(i int)
	fill = func(i int) {
		if i == states {
			visit(ByTwo(slices.Clone(l), to...))
			return
		}
		for label := range labels {
			for x := range states * states {
				l[i], to[i] = label-1, [2]int{x / states, x % states}
				fill(i + 1)
			}
		}
	}
	fill(0)
}

// DenseText is an automaton as a text: of each state its label, and of each row of bytes that lead to one state the first byte and that state.
func DenseText(d api.Dense) string {
	var l []string
	for s, row := range d.Next {
		text := strconv.Itoa(d.Label[s]) + ":"
		for b, to := range row {
			if b == 0 || to != row[b-1] {
				text += " " + byteText(byte(b)) + ">" + strconv.Itoa(to)
			}
		}
		l = append(l, text)
	}
	return strings.Join(l, "; ")
}

// byteText is a byte itself, if it is a letter, or two digits for it.
func byteText(b byte) string {
	if 'a' <= b && b <= 'z' {
		return string(rune(b))
	}
	text := strconv.FormatInt(int64(b), 16)
	return strings.Repeat("0", 2-len(text)) + text
}

// DenseLists is all rows of automata, each up to its capacity.
func DenseLists(l []api.Dense) [][]int {
	var lists [][]int
	for _, d := range l[:cap(l)] {
		lists = append(lists, d.Label[:cap(d.Label)])
		for _, row := range d.Next[:cap(d.Next)] {
			lists = append(lists, row[:cap(row)])
		}
	}
	return lists
}

// FoundFrom0 is an automaton's states in the order in which they are found.
func FoundFrom0(d api.Dense) []int {
	found := []int{0}
	for i := 0; i < len(found); i++ {
		for _, s := range d.Next[found[i]] {
			if !slices.Contains(found, s) {
				found = append(found, s)
			}
		}
	}
	return found
}

// LabelBehind is the label behind a word, from a state on.
func LabelBehind(d api.Dense, state int, w string) int {
	for i := range len(w) {
		state = d.Next[state][w[i]]
	}
	return d.Label[state]
}

// InOrder tells all words of these bytes (that rise) of at most so many, in their order.
func InOrder(bytes string, most int) []string {
	words, last := []string{""}, []string{""}
	for range most {
		var next []string
		for _, w := range last {
			for i := range len(bytes) {
				next = append(next, w+bytes[i:i+1])
			}
		}
		words, last = append(words, next...), next
	}
	return words
}

// NotDense tells automata that may not be, from unlike causes.
func NotDense() map[string]api.Dense {
	l := map[string]api.Dense{
		"nothing": {}, "no states": {Next: [][]int{}, Label: []int{}}, "601 states": States(601),
		"many": {Next: make([][]int, 1<<20), Label: make([]int, 1<<20)},
	}
	for what, change := range badChanges() {
		d := Two()
		change(&d)
		l[what] = d
	}
	return l
}

func badChanges() map[string]func(d *api.Dense) {
	return map[string]func(d *api.Dense){
		// lists that are too long, or too short
		"a row less": func(d *api.Dense) { d.Next = d.Next[:1] }, "a row more": func(d *api.Dense) { d.Next = append(d.Next, d.Next[0]) }, "no rows": func(d *api.Dense) { d.Next = nil },
		"a label less": func(d *api.Dense) { d.Label = d.Label[:1] }, "a label more": func(d *api.Dense) { d.Label = append(d.Label, 0) }, "no labels": func(d *api.Dense) { d.Label = nil },
		"255 bytes": func(d *api.Dense) { d.Next[0] = d.Next[0][:255] }, "257 bytes": func(d *api.Dense) { d.Next[1] = append(d.Next[1], 0) }, "no bytes": func(d *api.Dense) { d.Next[1] = nil }, "none at first": func(d *api.Dense) { d.Next[0] = nil },
		"very many bytes": func(d *api.Dense) { d.Next[1] = make([]int, 1<<20) },
		// numbers of no states
		"state 2": func(d *api.Dense) { d.Next[0][0] = 2 }, "state 2, last": func(d *api.Dense) { d.Next[1][255] = 2 }, "state -1": func(d *api.Dense) { d.Next[0][255] = -1 }, "state -1, last": func(d *api.Dense) { d.Next[1][0] = -1 },
		"the greatest state": func(d *api.Dense) { d.Next[1]['a'] = math.MaxInt }, "the least state": func(d *api.Dense) { d.Next[1]['a'] = math.MinInt },
		// labels of no rules
		"label -2": func(d *api.Dense) { d.Label[0] = -2 }, "label -2, last": func(d *api.Dense) { d.Label[1] = -2 }, "label 200": func(d *api.Dense) { d.Label[0] = 200 }, "label 200, last": func(d *api.Dense) { d.Label[1] = 200 },
		"the greatest label": func(d *api.Dense) { d.Label[1] = math.MaxInt }, "the least label": func(d *api.Dense) { d.Label[1] = math.MinInt },
	}
}

// Dense makes an automaton of so many states, whose labels are -1 and so many others; each byte but a few leads as others do.
func (c *Chance) Dense(states, labels int) api.Dense {
	var d api.Dense
	for range states {
		row := slices.Repeat([]int{c.Of(states)}, 256)
		for _, b := range "\x00ab" {
			row[b] = c.Of(states)
		}
		row[255] = c.Of(states)
		d.Next, d.Label = append(d.Next, row), append(d.Label, c.Of(labels+1)-1)
	}
	return d
}

// Blown makes an automaton of so many states, as many as this one has or more, each of which is like one of it; and tells which.
func (c *Chance) Blown(d api.Dense, states int) (api.Dense, []int) {
	like := UpTo(0, len(d.Next)-1)
	for len(like) < states {
		like = append(like, c.Of(len(d.Next)))
	}
	for i := range like[1:] {
		j := 1 + c.Of(len(like)-1)
		like[i+1], like[j] = like[j], like[i+1]
	}
	same := make([][]int, len(d.Next))
	for s, x := range like {
		same[x] = append(same[x], s)
	}
	var blown api.Dense
	for _, x := range like {
		var row []int
		for _, to := range d.Next[x] {
			row = append(row, same[to][c.Of(len(same[to]))])
		}
		blown.Next, blown.Label = append(blown.Next, row), append(blown.Label, d.Label[x])
	}
	return blown, like
}

// WildDense makes an automaton of a few states, which now and then may not be.
func (c *Chance) WildDense() api.Dense {
	var d api.Dense
	for range 1 + c.Of(3) {
		d.Next = append(d.Next, slices.Repeat([]int{c.Of(3)}, []int{256, 256, 256, 256, 255, 257}[c.Of(6)]))
		d.Label = append(d.Label, []int{-1, 0, 5, 199, -2, 200}[c.Of(6)])
	}
	switch c.Of(20) {
	case 0:
		d.Next[0][c.Of(len(d.Next[0]))] = []int{-1, math.MaxInt, math.MinInt}[c.Of(3)]
	case 1:
		d.Label = append(d.Label, 0)
	case 2:
		d.Label = d.Label[1:]
	}
	return d
}
