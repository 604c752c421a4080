package subset_test

import (
	"slices"
	"testing"

	"bolter/api"
	"bolter/byteset"
)

// P11.2

func TestModes(t *testing.T) {
	f := followOf(t, "rule \"a\" => t\nrule [^]* => u\nrule [ab]+ \"c\" => v")
	wantModes(t, "one", f, [][]int{{0}}, 3)
	wantModes(t, "one without rules", f, [][]int{nil}, 1)
	wantModes(t, "several", f, [][]int{{0}, {1}, {}, {2}, {0, 2}, {0, 1, 2}, {0}}, 3, 1, 1, 4, 5, 5, 3)
	wantModes(t, "no rules at all", api.Follow{}, make([][]int, 16), slices.Repeat([]int{1}, 16)...)
	wantModes(t, "as many as may be", f, slices.Repeat([][]int{{0, 1, 2}}, 16), slices.Repeat([]int{5}, 16)...)
}

func TestHowManyModes(t *testing.T) {
	f := followOf(t, `rule "a" => t`)
	for what, active := range map[string][][]int{"none": nil, "an empty list": {}, "17": make([][]int, 17), "17 with rules": slices.Repeat([][]int{{0}}, 17), "very many": make([][]int, 1<<20)} {
		wantNoModes(t, what, f, active, api.CodeArg)
		wantNoModes(t, what, api.Follow{Sets: make([]api.Set, 1)}, active, api.CodeArg)
		wantNoModes(t, what, ring(1000, byteset.Of('a')), active, api.CodeArg)
	}
}

// A row that may not be stands ahead of too many states, wherever it stands.
func TestModesWithOtherRules(t *testing.T) {
	three := followOf(t, "rule \"a\" => t\nrule \"b\" => u\nrule () => v")
	many := rings(byteset.Of('a'), 600, 399, 1)
	wantNoModes(t, "many states", many, [][]int{{0, 1, 2}}, api.CodeTooManyStates)
	for _, row := range noActive() {
		for _, active := range [][][]int{{row, {0}}, {{0}, row}, {nil, {0, 1}, row, {2}}, append(make([][]int, 15), row), {row, row}} {
			wantNoModes(t, "three rules", three, active, api.CodeArg)
			wantNoModes(t, "many states", many, active, api.CodeArg)
		}
	}
	for _, f := range []api.Follow{{Sets: make([]api.Set, 1)}, {First: make([][]int, 201)}, ring(1001, byteset.Of('a'))} {
		wantNoModes(t, "no automaton", f, [][]int{nil, nil}, api.CodeArg)
	}
}

func TestHowManyStatesOfAllModes(t *testing.T) {
	all, a := byteset.All(), byteset.Of('a')
	for what, c := range map[string]struct {
		f      api.Follow
		active [][]int
		states []int // none: too many
	}{
		"two with the empty set":              {rings(a, 299, 299), [][]int{{0}, {1}}, []int{300, 300}},
		"two with the empty set, one more":    {rings(a, 299, 300), [][]int{{0}, {1}}, nil},
		"two without it":                      {rings(all, 299, 299), [][]int{{0}, {1}}, []int{299, 299}},
		"two without it, one more":            {rings(all, 300, 299), [][]int{{0}, {1}}, nil},
		"one mode alone has too many":         {rings(a, 600, 1), [][]int{{1}, {0}}, nil},
		"the first one has too many":          {rings(a, 600, 1), [][]int{{0}, {1}}, nil},
		"the empty mode is the last":          {rings(a, 598), [][]int{{0}, nil}, []int{599, 1}},
		"the empty mode is one too many":      {rings(a, 599), [][]int{{0}, nil}, nil},
		"the empty mode ahead is too many":    {rings(a, 599), [][]int{nil, {0}}, nil},
		"two empty modes":                     {rings(all, 597), [][]int{{0}, nil, nil}, []int{597, 1, 1}},
		"two empty modes are too many":        {rings(all, 598), [][]int{nil, {0}, nil}, nil},
		"one is counted twice":                {rings(a, 299), [][]int{{0}, {0}}, []int{300, 300}},
		"one is counted twice, too many":      {rings(a, 300), [][]int{{0}, {0}}, nil},
		"16 modes":                            {rings(a, 36, 44), append(slices.Repeat([][]int{{0}}, 15), []int{1}), append(slices.Repeat([]int{37}, 15), 45)},
		"16 modes, one more":                  {rings(a, 36, 45), append(slices.Repeat([][]int{{0}}, 15), []int{1}), nil},
		"the last mode has no room for any":   {rings(all, 599), [][]int{{0}, nil}, nil},
		"the last one has room for one alone": {rings(all, 598, 1), [][]int{{0}, {1}}, nil},
	} {
		if c.states == nil {
			wantNoModes(t, what, c.f, c.active, api.CodeTooManyStates)
			continue
		}
		wantModes(t, what, c.f, c.active, c.states...)
	}
}

func TestModesByChance(t *testing.T) {
	c := chance{3}
	for range 500 {
		l := c.rules(3)
		f := placed(t, l)
		var active [][]int
		var states []int
		for range 1 + c.Of(5) {
			active = append(active, c.some(len(l)))
			states = append(states, len(built(t, l, f, active[len(active)-1]).Next))
		}
		wantModes(t, l, f, active, states...)
	}
}
