package match

import (
	"bolter/api"
	"bolter/cores"
)

func textMayBe(text []byte) bool {
	return len(text) <= api.MaxFile
}

// rulesMayBe asks that each active one is a rule.
func rulesMayBe(l []api.Core, active []int) bool {
	for _, rule := range active {
		if rule < 0 || rule >= len(l) {
			return false
		}
	}
	return cores.MayBe(l)
}
