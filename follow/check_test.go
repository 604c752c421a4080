package follow_test

import (
	"math"
	"slices"
	"testing"

	"bolter/api"
	"bolter/follow"
)

// P10.3

func of(sets []api.Set, rules []int, first, next [][]int) api.Follow {
	return api.Follow{Sets: sets, Rules: rules, First: first, Next: next}
}

// three is an automaton of three rules, the second one without positions.
func three() api.Follow {
	return of(make([]api.Set, 4), []int{0, 0, 2, 2}, [][]int{{0, 1, 4}, {5}, {2}}, [][]int{{0, 1, 4}, {}, {2, 3, 6}, {6}})
}

func TestThoseThatMayBe(t *testing.T) {
	for what, change := range map[string]func(f *api.Follow){
		"as it is":      func(f *api.Follow) {},
		"nothing":       func(f *api.Follow) { *f = of(nil, nil, nil, nil) },
		"empty lists":   func(f *api.Follow) { *f = of([]api.Set{}, []int{}, [][]int{}, [][]int{}) },
		"no positions":  func(f *api.Follow) { *f = api.Follow{First: [][]int{{0}, {1}, {}, nil, {4}}} },
		"no places":     func(f *api.Follow) { f.First, f.Next = make([][]int, 3), make([][]int, 4) },
		"any bytes":     func(f *api.Follow) { f.Sets[0] = api.Set{1, 1 << 63, math.MaxUint64, 5} },
		"one rule":      func(f *api.Follow) { *f = of(f.Sets[:1], []int{0}, [][]int{{0, 1}}, [][]int{{0, 1}}) },
		"the last rule": func(f *api.Follow) { *f = of(f.Sets[:1], []int{2}, [][]int{{1}, {2}, {0, 3}}, [][]int{{0, 3}}) },
		"rules behind":  func(f *api.Follow) { f.First = append(f.First, []int{7}, nil, []int{9}) },
		"ends alone":    func(f *api.Follow) { f.First, f.Next = [][]int{{4}, {5}, {6}}, [][]int{{4}, {4}, {6}, {6}} },
		"each place":    func(f *api.Follow) { f.Next = [][]int{{0, 1, 4}, {0, 1, 4}, {2, 3, 6}, {2, 3, 6}} },
		"all of one rule": func(f *api.Follow) {
			*f = of(f.Sets, make([]int, 4), [][]int{upTo(0, 4)}, slices.Repeat([][]int{upTo(0, 4)}, 4))
		},
		"one that is apart": func(f *api.Follow) { f.First[2], f.Next[0] = nil, nil },
	} {
		if f := three(); !follow.Check(changed(f, change)) {
			t.Errorf("%s may not be", what)
		}
	}
}

func changed(f api.Follow, change func(f *api.Follow)) api.Follow {
	change(&f)
	return f
}

func TestThoseThatMayNotBe(t *testing.T) {
	for what, change := range map[string]func(f *api.Follow){
		// lists that are too long, or too short
		"one set less": func(f *api.Follow) { f.Sets = f.Sets[:3] }, "one set more": func(f *api.Follow) { f.Sets = append(f.Sets, api.Set{}) }, "no sets": func(f *api.Follow) { f.Sets = nil },
		"one number less": func(f *api.Follow) { f.Rules = f.Rules[:3] }, "one number more": func(f *api.Follow) { f.Rules = append(f.Rules, 2) }, "no numbers": func(f *api.Follow) { f.Rules = nil },
		"one row less": func(f *api.Follow) { f.Next = f.Next[:3] }, "one row more": func(f *api.Follow) { f.Next = append(f.Next, nil) }, "no rows": func(f *api.Follow) { f.Next = nil },
		"one rule less": func(f *api.Follow) { f.First = f.First[:2] }, "no rules": func(f *api.Follow) { f.First = nil }, "sets alone": func(f *api.Follow) { *f = api.Follow{Sets: f.Sets} },
		"numbers alone": func(f *api.Follow) { *f = api.Follow{Rules: f.Rules, First: f.First} }, "rows alone": func(f *api.Follow) { *f = api.Follow{Next: make([][]int, 1)} },
		// numbers of rules
		"numbers that fall": func(f *api.Follow) { f.Rules = []int{0, 2, 0, 2} }, "that fall at the end": func(f *api.Follow) { f.Rules[3] = 0 }, "no number of a rule": func(f *api.Follow) { f.Rules[3] = 3 }, "below 0": func(f *api.Follow) { f.Rules[0] = -1 },
		"the greatest number": func(f *api.Follow) { f.Rules[3] = math.MaxInt }, "the least number": func(f *api.Follow) { f.Rules[0] = math.MinInt },
		// rows that do not rise
		"one place twice": func(f *api.Follow) { f.Next[0] = []int{0, 0} }, "the end twice": func(f *api.Follow) { f.Next[0] = []int{4, 4} }, "rows that fall": func(f *api.Follow) { f.Next[0] = []int{1, 0} }, "an end ahead": func(f *api.Follow) { f.Next[3] = []int{6, 2} },
		"twice at the beginning": func(f *api.Follow) { f.First[0] = []int{1, 1} }, "falling at the beginning": func(f *api.Follow) { f.First[2] = []int{3, 2} },
		// places of others
		"another's position": func(f *api.Follow) { f.Next[0] = []int{2} }, "another's end": func(f *api.Follow) { f.Next[0] = []int{5} }, "the last one's end": func(f *api.Follow) { f.Next[1] = []int{0, 6} }, "the first one's end": func(f *api.Follow) { f.Next[3] = []int{4} }, "a position ahead": func(f *api.Follow) { f.Next[2] = []int{1, 2} },
		"to begin at another's": func(f *api.Follow) { f.First[0] = []int{0, 2} }, "to begin where none is": func(f *api.Follow) { f.First[1] = []int{0} }, "to begin at another's end": func(f *api.Follow) { f.First[1] = []int{6} }, "to begin at the end ahead": func(f *api.Follow) { f.First[2] = []int{5} },
		// no places
		"a place below 0": func(f *api.Follow) { f.Next[0] = []int{-1, 0} }, "below 0 at the beginning": func(f *api.Follow) { f.First[0] = []int{-1} }, "behind all ends": func(f *api.Follow) { f.Next[3] = []int{7} }, "behind all ends at the beginning": func(f *api.Follow) { f.First[2] = []int{2, 7} },
		"the greatest place": func(f *api.Follow) { f.Next[3] = []int{6, math.MaxInt} }, "the least place": func(f *api.Follow) { f.First[0] = []int{math.MinInt, 0} }, "of the last rule alone": func(f *api.Follow) { f.First[2] = []int{-4} },
	} {
		if f := three(); follow.Check(changed(f, change)) {
			t.Errorf("%s may be", what)
		}
	}
}

// great is an automaton of so many positions, all of the last of so many rules.
func great(positions, rules int) api.Follow {
	all := append(upTo(0, positions-1), positions+rules-1)
	return of(make([]api.Set, positions), slices.Repeat([]int{rules - 1}, positions), append(make([][]int, rules-1), all), slices.Repeat([][]int{all}, positions))
}

func TestHowGreatTheyMayBe(t *testing.T) {
	for _, c := range []struct {
		positions, rules int
		want             bool
	}{
		{1000, 200, true}, {1000, 1, true}, {0, 200, true}, {1001, 200, false}, {1000, 201, false}, {1001, 1, false}, {0, 201, false}, {1, 201, false}, {5000, 1, false}, {1, 1 << 16, false},
	} {
		if got := follow.Check(great(c.positions, c.rules)); got != c.want {
			t.Errorf("%d positions of %d rules may be: %v", c.positions, c.rules, got)
		}
	}
	for what, change := range map[string]func(f *api.Follow){
		"a long row":                  func(f *api.Follow) { f.Next[999] = append(f.Next[999], 1200) },
		"a long row at the beginning": func(f *api.Follow) { f.First[199] = make([]int, 1<<20) },
		"the last row":                func(f *api.Follow) { f.Next[999] = []int{998, 999, 1198} },
	} {
		if follow.Check(changed(great(1000, 200), change)) {
			t.Errorf("%s may be", what)
		}
	}
}

// mayBe reads the promise once more.
func mayBe(f api.Follow) bool {
	if len(f.Sets) > 1000 || len(f.First) > 200 || len(f.Rules) != len(f.Sets) || len(f.Next) != len(f.Sets) || !slices.IsSorted(f.Rules) {
		return false
	}
	if slices.ContainsFunc(f.Rules, func(r int) bool { return r < 0 || r >= len(f.First) }) {
		return false
	}
	rowMayBe := func(rule int, row []int) bool {
		own := []int{len(f.Sets) + rule}
		for p, r := range f.Rules {
			if r == rule {
				own = append(own, p)
			}
		}
		return slices.IsSorted(row) && len(slices.Compact(slices.Clone(row))) == len(row) && !slices.ContainsFunc(row, func(p int) bool { return !slices.Contains(own, p) })
	}
	for r, row := range f.First {
		if !rowMayBe(r, row) {
			return false
		}
	}
	for p, row := range f.Next {
		if !rowMayBe(f.Rules[p], row) {
			return false
		}
	}
	return true
}

// spoilt changes an automaton at some place, in a way that may still be.
func (c *chance) spoilt(f *api.Follow) {
	number := func() int { return c.Of(len(f.Sets)+len(f.First)+4) - 2 }
	spoil := func(l []int) []int {
		switch i := c.Of(len(l) + 1); {
		case i == len(l) || c.Of(3) == 0:
			return slices.Insert(slices.Clone(l), i, number())
		case c.Of(2) == 0:
			return slices.Delete(slices.Clone(l), i, i+1)
		default:
			l = slices.Clone(l)
			l[i] = number()
			return l
		}
	}
	switch rows := [][][]int{f.First, f.Next}[c.Of(2)]; {
	case c.Of(20) == 0:
		f.First = append(slices.Clone(f.First), []int{number()})
	case c.Of(20) == 0:
		f.Rules = spoil(f.Rules)
	case len(f.Rules) > 0 && c.Of(8) == 0:
		f.Rules[c.Of(len(f.Rules))] += c.Of(3) - 1
	case len(rows) > 0:
		i := c.Of(len(rows))
		rows[i] = spoil(rows[i])
	}
}

func TestChecksByChance(t *testing.T) {
	c := chance{5}
	may, mayNot := 0, 0
	for range 40000 {
		l := c.rules(2)
		f := built(t, l, l)
		for range 1 + c.Of(3) {
			c.spoilt(&f)
			want := mayBe(f)
			if got := follow.Check(f); got != want {
				t.Fatalf("%+v may be: %v", f, got)
			}
			if want {
				may++
			} else {
				mayNot++
			}
		}
	}
	if min(may, mayNot) < 10000 {
		t.Errorf("%d may be, %d may not", may, mayNot)
	}
}
