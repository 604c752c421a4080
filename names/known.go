package names

import (
	"slices"

	"bolter/api"
)

// known is what the names of a rule file stand for: the number of the first mode, the first definition of the name.
type known struct {
	modes map[string]int
	defs  map[string]int
}

func knownIn(s api.Spec) known {
	k := known{modes: map[string]int{}, defs: map[string]int{}}
	for i, m := range s.Modes {
		enter(k.modes, m.Name, i)
	}
	for i, d := range s.Defs {
		enter(k.defs, d.Name, i)
	}
	return k
}

func enter(numbers map[string]int, name string, number int) {
	if _, again := numbers[name]; !again {
		numbers[name] = number
	}
}

// uses tells of each definition the numbers of those that it uses, rising.
func (k known) uses(defs []api.Def) [][]int {
	var all [][]int
	for _, d := range defs {
		var used []int
		for _, name := range Uses(d.Expr) {
			if number, ok := k.defs[name]; ok {
				used = append(used, number)
			}
		}
		slices.Sort(used)
		all = append(all, used)
	}
	return all
}

// acts tells of each rule its actions, with their modes' numbers.
func (k known) acts(rules []api.Rule) [][]api.Step {
	var all [][]api.Step
	for _, u := range rules {
		var steps []api.Step
		for _, a := range u.Acts {
			steps = append(steps, k.step(a))
		}
		all = append(all, steps)
	}
	return all
}

// step leaves the mode 0 of an action that names none.
func (k known) step(a api.Act) api.Step {
	step := api.Step{Do: a.Do}
	if number, ok := k.modes[a.Mode.Name]; ok {
		step.Mode = number
	}
	return step
}
