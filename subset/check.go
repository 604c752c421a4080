package subset

import "bolter/api"

// modesMayBe asks of each mode that its active rules rise strictly, and are of so many.
func modesMayBe(active [][]int, rules int) bool {
	if len(active) == 0 || len(active) > api.MaxConds {
		return false
	}
	for _, row := range active {
		if !activeMayBe(row, rules) {
			return false
		}
	}
	return true
}

func activeMayBe(active []int, rules int) bool {
	least := 0
	for _, rule := range active {
		if rule < least || rule >= rules {
			return false
		}
		least = rule + 1
	}
	return true
}

func countsMayBe(d api.Dense) bool {
	states := len(d.Next)
	return states >= 1 && states <= api.MaxStates && len(d.Label) == states
}

func rowsMayBe(d api.Dense) bool {
	for _, row := range d.Next {
		if !rowMayBe(row, len(d.Next)) {
			return false
		}
	}
	return true
}

func rowMayBe(row []int, states int) bool {
	if len(row) != rowLength {
		return false
	}
	for _, state := range row {
		if state < 0 || state >= states {
			return false
		}
	}
	return true
}

func labelsMayBe(d api.Dense) bool {
	for _, rule := range d.Label {
		if rule < none || rule >= api.MaxRules {
			return false
		}
	}
	return true
}
