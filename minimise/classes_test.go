package minimise_test

import (
	"slices"
	"testing"

	"bolter/api"
	"bolter/samples"
)

// P12.1

func TestClasses(t *testing.T) {
	for what, c := range map[string]struct {
		d    api.Dense
		want []int
	}{
		// the document's
		"two that lead to one another": {byTwo([]int{-1, 0, 0}, [2]int{1, 1}, [2]int{2, 2}, [2]int{1, 1}), []int{0, 1, 1}},
		"one is not reached":           {byTwo([]int{-1, 5}, [2]int{0, 0}, [2]int{0, 1}), []int{0, 1}},
		"one state":                    {byTwo([]int{3}, [2]int{}), []int{0}},
		// labels
		"none, and the greatest": {byTwo([]int{199, -1, 0, 198, -1}, [2]int{}, [2]int{1, 1}, [2]int{2, 2}, [2]int{3, 3}, [2]int{4, 4}), []int{0, 1, 2, 3, 1}},
		"labels fall":            {byTwo([]int{7, 5, 3, 5, 7}, [2]int{}, [2]int{1, 1}, [2]int{2, 2}, [2]int{3, 3}, [2]int{4, 4}), []int{0, 1, 2, 1, 0}},
		"one label":              {byTwo([]int{4, 4, 4}, [2]int{1, 2}, [2]int{0, 1}, [2]int{2, 0}), []int{0, 0, 0}},
		"no labels":              {byTwo([]int{-1, -1, -1}, [2]int{1, 2}, [2]int{0, 1}, [2]int{2, 0}), []int{0, 0, 0}},
		// numbers rise with the least states, not with the labels, nor as they are found
		"the last is found first": {byTwo([]int{0, -1, 0, -1}, [2]int{3, 2}, [2]int{1, 1}, [2]int{2, 2}, [2]int{3, 3}), []int{0, 1, 2, 1}},
		"all are their own":       {byTwo([]int{-1, -1, -1, 7}, [2]int{2, 1}, [2]int{2, 3}, [2]int{2, 2}, [2]int{2, 3}), []int{0, 1, 2, 3}},
		// not reached
		"those not reached are like one": {byTwo([]int{-1, 0, 0, -1}, [2]int{2, 0}, [2]int{1, 0}, [2]int{2, 3}, [2]int{1, 0}), []int{0, 1, 1, 0}},
		"those not reached are unlike":   {byTwo([]int{0, 0, 0, 1}, [2]int{}, [2]int{2, 0}, [2]int{3, 0}, [2]int{}), []int{0, 1, 2, 3}},
		// behind texts of one byte, of two, of three
		"one byte":    {byTwo([]int{-1, -1, 0}, [2]int{0, 1}, [2]int{0, 2}, [2]int{2, 2}), []int{0, 1, 2}},
		"two bytes":   {byTwo([]int{-1, -1, -1, 0}, [2]int{0, 1}, [2]int{0, 2}, [2]int{0, 3}, [2]int{3, 3}), []int{0, 1, 2, 3}},
		"three bytes": {byTwo([]int{-1, -1, -1, 0, -1}, [2]int{4, 1}, [2]int{4, 2}, [2]int{4, 3}, [2]int{3, 3}, [2]int{4, 4}), []int{0, 1, 2, 3, 4}},
	} {
		wantClasses(t, what, c.d, c.want)
		wantFormal(t, what, c.d)
	}
}

// Each byte tells apart by itself, and each place of a row is looked at.
func TestEachByteTellsApart(t *testing.T) {
	for b := range 256 {
		d := byTwo([]int{-1, -1, 0, 1}, [2]int{2, 2}, [2]int{2, 2}, [2]int{0, 0}, [2]int{1, 1})
		wantClasses(t, b, d, []int{0, 0, 1, 2})
		d.Next[1][b] = 3
		wantClasses(t, b, d, []int{0, 1, 2, 3})
	}
}

// Each label is another one.
func TestEachLabelTellsApart(t *testing.T) {
	d := samples.States(201)
	for s := range d.Next {
		d.Next[s] = make([]int, 256)
	}
	wantClasses(t, "201 labels", d, upTo(0, 200))
	slices.Reverse(d.Label)
	wantClasses(t, "201 labels, falling", d, upTo(0, 200))
	d.Label[200] = d.Label[0]
	wantClasses(t, "200 labels", d, append(upTo(0, 199), 0))
}

// labelsBehind is the labels behind all texts of a and b of so many bytes or fewer, from a state on.
func labelsBehind(d api.Dense, state, deep int) string {
	text := string(rune('A' + d.Label[state]))
	if deep > 0 {
		text += labelsBehind(d, d.Next[state]['a'], deep-1) + labelsBehind(d, d.Next[state]['b'], deep-1)
	}
	return text
}

// Of so few states each two that a text tells apart are told apart by one that is no longer than there are states, less two.
func TestSmallAutomata(t *testing.T) {
	count := 0
	for states := 1; states <= 3; states++ {
		samples.AllDense(states, 2, func(d api.Dense) {
			count++
			var texts []string
			want, found := []int{}, 0
			for s := range states {
				text := labelsBehind(d, s, states-1)
				if i := slices.Index(texts, text); i >= 0 {
					want = append(want, want[i])
				} else {
					want = append(want, found)
					found++
				}
				texts = append(texts, text)
			}
			wantClasses(t, shown(d), d, want)
		})
	}
	if count != 2+4*16+8*729 {
		t.Errorf("%d automata", count)
	}
}

func TestClassesByChance(t *testing.T) {
	c := chance{1}
	fewer := 0
	for range 2000 {
		d := c.dense()
		want := classesBy(d)
		wantClasses(t, shown(d), d, want)
		if slices.Max(want) < len(want)-1 {
			fewer++
		}
	}
	if min(fewer, 2000-fewer) < 400 {
		t.Errorf("%d have fewer classes than states", fewer)
	}
}

// Those that are like one state are of one class.
func TestClassesOfThoseThatAreAlike(t *testing.T) {
	c := chance{2}
	for range 150 {
		d := c.Dense(2+c.Of(20), 2)
		own := classesOf(t, shown(d), d)
		blown, like := c.Blown(d, len(d.Next)+c.Of(60))
		classes := classesOf(t, shown(blown), blown)
		for s, x := range like {
			for u, y := range like {
				if (classes[s] == classes[u]) != (own[x] == own[y]) {
					t.Fatalf("%s: states %d and %d, which are like %d and %d, have classes %d and %d", shown(d), s, u, x, y, classes[s], classes[u])
				}
			}
		}
	}
}

func remainders(n, by int) []int {
	var l []int
	for i := range n {
		l = append(l, i%by)
	}
	return l
}

func TestGreatAutomata(t *testing.T) {
	last := samples.States(600)
	for s := range last.Label {
		last.Label[s] = -1
	}
	wantClasses(t, "600 alike", last, make([]int, 600))
	last.Label[599] = 0
	wantClasses(t, "told apart by texts of 598 bytes", last, upTo(0, 599))
	wantClasses(t, "all labels", samples.States(600), upTo(0, 599))
	for _, by := range []int{1, 2, 3, 8, 120, 150, 200, 300, 600} {
		wantClasses(t, by, ringOf(600, func(s int) int { return s%by/4 - 1 }), remainders(600, classesOfARing(by)))
	}
	wantClasses(t, "two beginnings", ringOf(600, func(s int) int { return s * 2 / 600 }), upTo(0, 599))
}

// classesOfARing: where a ring's labels come again after so many states, these are told apart, unless they all have one label.
func classesOfARing(by int) int {
	if by <= 4 {
		return 1
	}
	return by
}

// All bytes lead otherwise, from the most states that there may be.
func TestGreatAutomataByChance(t *testing.T) {
	c := chance{3}
	for _, states := range []int{1, 2, 150, 300, 599, 600} {
		d := api.Dense{}
		for s := range states {
			var row []int
			for range 256 {
				row = append(row, c.Of(states))
			}
			d.Next, d.Label = append(d.Next, row), append(d.Label, s%2)
		}
		blown, like := c.Blown(d, 600)
		classes := classesOf(t, states, blown)
		if own := classesOf(t, states, d); !slices.Equal(own, upTo(0, states-1)) || slices.Max(classes) != states-1 {
			t.Fatalf("%d states, all told apart: %s, %s", states, short(own), short(classes))
		}
		first := map[int]int{}
		for s, x := range like {
			if _, ok := first[x]; !ok {
				first[x] = len(first)
			}
			if classes[s] != first[x] {
				t.Fatalf("%d states: state %d, which is like %d, has class %d, want %d", states, s, x, classes[s], first[x])
			}
		}
	}
}

func TestThoseThatMayNotBe(t *testing.T) {
	for what, d := range samples.NotDense() {
		wantArg(t, what, d)
	}
	for s := range 3 {
		for _, b := range []int{0, 'a', 255} {
			for _, to := range []int{-1, 3} {
				d := samples.States(3)
				d.Next[s][b] = to
				wantArg(t, shown(d), d)
			}
		}
		for _, label := range []int{-2, 200} {
			d := samples.States(3)
			d.Label[s] = label
			wantArg(t, shown(d), d)
		}
	}
}
