package names

import (
	"slices"
	"testing"

	"bolter/api"
)

// P6.2: Modes, Active, Acts

func TestModes(t *testing.T) {
	for text, want := range map[string]api.Names{
		"":                      {Modes: []string{"start"}, Active: [][]int{nil}},
		"mode m":                {Modes: []string{"m"}, Active: [][]int{nil}},
		"own m":                 {Modes: []string{"m"}, Active: [][]int{nil}},
		"own z a\nmode start b": {Modes: []string{"z", "a", "start", "b"}, Active: [][]int{nil, nil, nil, nil}},
		// the document's
		"mode x\nown y\nrule <*> () => t\nrule <y> () => t\nrule () => t": {Modes: []string{"x", "y"}, Active: [][]int{{0, 2}, {0, 1}}, Acts: [][]api.Step{nil, nil, nil}},
		// no modes
		"rule () => t\nrule <*> () => t\nrule <start> () => t\nrule <start,start> () => t": {Modes: []string{"start"}, Active: [][]int{{0, 1, 2, 3}}, Acts: [][]api.Step{nil, nil, nil, nil}},
		// all are own
		"own x y\nrule () => t\nrule <*> () => t\nrule <y> () => t\nrule () => t": {Modes: []string{"x", "y"}, Active: [][]int{{1}, {1, 2}}, Acts: [][]api.Step{nil, nil, nil, nil}},
		"own start\nrule () => t": {Modes: []string{"start"}, Active: [][]int{nil}, Acts: [][]api.Step{nil}},
		// in whatever order, however often
		"mode x y z\nrule <z,x,z,z> () => t\nrule () => u\nrule <y,y> () => t": {Modes: []string{"x", "y", "z"}, Active: [][]int{{0, 1}, {1, 2}, {0, 1}}, Acts: [][]api.Step{nil, nil, nil}},
		"rule <x> () => t\nmode x y":                                        {Modes: []string{"x", "y"}, Active: [][]int{{0}, nil}, Acts: [][]api.Step{nil}},
		"own x\nmode y\nrule <x,y> () => t\nrule <x> () => t\nrule () => t": {Modes: []string{"x", "y"}, Active: [][]int{{0, 1}, {0, 2}}, Acts: [][]api.Step{nil, nil, nil}},
		// acts
		"rule () => t, begin start, push start, pop": {Modes: []string{"start"}, Active: [][]int{{0}}, Acts: [][]api.Step{{{Do: api.ActBegin}, {Do: api.ActPush}, {Do: api.ActPop}}}},
		"mode x y z\nrule <z> () => t, pop, push z, begin y, pop, begin x, push y\nrule <z> () => t\nrule <*> () => u, begin z": {
			Modes: []string{"x", "y", "z"}, Active: [][]int{{2}, {2}, {0, 1, 2}},
			Acts: [][]api.Step{{{Do: api.ActPop}, {Do: api.ActPush, Mode: 2}, {Do: api.ActBegin, Mode: 1}, {Do: api.ActPop}, {Do: api.ActBegin}, {Do: api.ActPush, Mode: 1}}, nil, {{Do: api.ActBegin, Mode: 2}}},
		},
	} {
		wantNames(t, text, parsed(t, text), want)
	}
}

// activeByHand asks for each mode and rule by the words of the document.
func activeByHand(s api.Spec) [][]int {
	modes := s.Modes
	if len(modes) == 0 {
		modes = []api.Mode{{Name: "start"}}
	}
	var all [][]int
	for _, m := range modes {
		var rules []int
		for i, u := range s.Rules {
			named := slices.Contains(namesOf(u.Modes), m.Name)
			if u.All || named || len(u.Modes) == 0 && !m.Own {
				rules = append(rules, i)
			}
		}
		all = append(all, rules)
	}
	return all
}

func namesOf(uses []api.Use) []string {
	var l []string
	for _, u := range uses {
		l = append(l, u.Name)
	}
	return l
}

// modesFile makes a file of well-named modes, rules and acts.
func (c *chance) modesFile() api.Spec {
	var s api.Spec
	for _, name := range numbered(c.of(api.MaxConds + 1)) {
		s.Modes = append(s.Modes, api.Mode{Name: name, Own: c.of(3) == 0})
	}
	use := func() api.Use {
		if len(s.Modes) == 0 {
			return api.Use{Name: "start"}
		}
		return api.Use{Name: s.Modes[c.of(len(s.Modes))].Name}
	}
	for range c.of(12) {
		u := ruleOf(api.Rule{All: c.of(4) == 0})
		for range c.of(4) * c.of(2) {
			if !u.All {
				u.Modes = append(u.Modes, use())
			}
		}
		u.Acts = c.acts(c.of(api.MaxActs+1), use)
		s.Rules = append(s.Rules, u)
	}
	return s
}

// P6.2, P6.3: held against a second reading; each rule that is not of no mode stands in Active somewhere.
func TestMadeModes(t *testing.T) {
	c := chance(9)
	for range 5000 {
		s := c.modesFile()
		want := api.Names{Modes: []string{"start"}, Active: activeByHand(s)}
		if len(s.Modes) > 0 {
			want.Modes = nil
		}
		ownOnly := len(s.Modes) > 0
		for _, m := range s.Modes {
			want.Modes = append(want.Modes, m.Name)
			ownOnly = ownOnly && m.Own
		}
		for i, u := range s.Rules {
			var steps []api.Step
			for _, a := range u.Acts {
				steps = append(steps, api.Step{Do: a.Do, Mode: max(0, slices.Index(want.Modes, a.Mode.Name))})
			}
			want.Acts = append(want.Acts, steps)
			nowhere := !slices.ContainsFunc(want.Active, func(rules []int) bool { return slices.Contains(rules, i) })
			if nowhere != (ownOnly && !u.All && len(u.Modes) == 0) {
				t.Fatalf("%+v: rule %d: %v", s, i, want.Active)
			}
		}
		wantNames(t, s, s, want)
	}
}

// Modes of a rule are not counted.
func TestManyModesOfARule(t *testing.T) {
	u := ruleOf(api.Rule{Modes: slices.Repeat([]api.Use{{Name: "n"}, {Name: "m"}}, 3000)})
	s := api.Spec{Modes: []api.Mode{{Name: "m"}, {Name: "n", Own: true}, {Name: "o"}}, Rules: []api.Rule{u, u}}
	wantNames(t, "many modes", s, api.Names{Modes: []string{"m", "n", "o"}, Active: [][]int{{0, 1}, {0, 1}, nil}, Acts: [][]api.Step{nil, nil}})
	s.Rules[1].Modes[5999].Name = "p"
	wantFault(t, "the last one's", s, misnamedAt(0, "p"))
}
