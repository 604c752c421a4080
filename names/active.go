package names

import (
	"slices"

	"bolter/api"
)

// active tells of each mode the rules that are active in it.
func active(s api.Spec) [][]int {
	all := make([][]int, len(s.Modes))
	for i, u := range s.Rules {
		for m, mode := range s.Modes {
			if isActive(u, mode) {
				all[m] = append(all[m], i)
			}
		}
	}
	return all
}

func isActive(u api.Rule, mode api.Mode) bool {
	if u.All {
		return true
	}
	if len(u.Modes) > 0 {
		return slices.ContainsFunc(u.Modes, func(use api.Use) bool { return use.Name == mode.Name })
	}
	return !mode.Own
}
