package follow

import "bolter/api"

func countsMayBe(f api.Follow) bool {
	count := len(f.Sets)
	return count <= api.MaxPositions && len(f.Rules) == count && len(f.Next) == count && len(f.First) <= api.MaxRules
}

// rulesMayBe asks that the rules' numbers rise, and are numbers of rules.
func rulesMayBe(f api.Follow) bool {
	least := 0
	for _, rule := range f.Rules {
		if rule < least || rule >= len(f.First) {
			return false
		}
		least = rule
	}
	return true
}

func firstMayBe(f api.Follow) bool {
	for rule, row := range f.First {
		if !rowMayBe(f, rule, row) {
			return false
		}
	}
	return true
}

func nextMayBe(f api.Follow) bool {
	for p, row := range f.Next {
		if !rowMayBe(f, f.Rules[p], row) {
			return false
		}
	}
	return true
}

// rowMayBe asks that places rise strictly, and are all of the rule.
func rowMayBe(f api.Follow, rule int, row []int) bool {
	behind := 0
	for _, place := range row {
		if place < behind || !isOf(f, rule, place) {
			return false
		}
		behind = place + 1
	}
	return true
}

// isOf is whether a place is a position of a rule, or its end.
func isOf(f api.Follow, rule, place int) bool {
	if place < len(f.Rules) {
		return f.Rules[place] == rule
	}
	return place == len(f.Rules)+rule
}
