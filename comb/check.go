package comb

import "bolter/api"

func countsMayBe(c api.Comb) bool {
	states, slots := len(c.Base), len(c.Check)
	return states >= 1 && states <= api.MaxStates && len(c.Default) == states && slots <= api.MaxSlots && len(c.Next) == slots
}

func basesMayBe(c api.Comb) bool {
	for _, base := range c.Base {
		if base < 0 || base > api.MaxSlots {
			return false
		}
	}
	return true
}

func defaultsMayBe(c api.Comb) bool {
	for state, to := range c.Default {
		if to < none || to >= state {
			return false
		}
	}
	return true
}

func slotsMayBe(c api.Comb, classes int) bool {
	for at := range c.Check {
		if !slotMayBe(c, classes, at) {
			return false
		}
	}
	return len(c.Check) == 0 || c.Check[len(c.Check)-1] != none
}

// slotMayBe asks for bases that may be: a class's slot is reckoned from them.
func slotMayBe(c api.Comb, classes, at int) bool {
	state, entry := c.Check[at], c.Next[at]
	if state == none {
		return entry == none
	}
	return isState(c, state) && at >= c.Base[state] && at < c.Base[state]+classes && (entry == none || isState(c, entry))
}

func isState(c api.Comb, state int) bool {
	return state >= 0 && state < len(c.Base)
}
