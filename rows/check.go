package rows

import (
	"bolter/api"
	"bolter/subset"
)

func automataMayBe(l []api.Dense) bool {
	if len(l) == 0 || len(l) > api.MaxConds {
		return false
	}
	states := 0
	for _, d := range l {
		if !subset.Check(d) {
			return false
		}
		states += len(d.Next)
	}
	return states <= api.MaxStates
}

func countsMayBe(r api.Rows) bool {
	states, modes := len(r.Next), len(r.Starts)
	return states >= 1 && states <= api.MaxStates && len(r.Label) == states && modes >= 1 && modes <= api.MaxConds && len(r.Classes) == bytes
}

// classesMayBe asks that each class is one that a byte ahead has, or the next one: so none is left out, and their first bytes rise.
func classesMayBe(r api.Rows) bool {
	found := 0
	for _, class := range r.Classes {
		if class < 0 || class > found {
			return false
		}
		found = max(found, class+1)
	}
	return found == r.Count
}

func startsMayBe(r api.Rows) bool {
	for _, state := range r.Starts {
		if !isState(r, state) {
			return false
		}
	}
	return true
}

func entriesMayBe(r api.Rows) bool {
	for _, row := range r.Next {
		if !rowMayBe(r, row) {
			return false
		}
	}
	return true
}

func rowMayBe(r api.Rows, row []int) bool {
	if len(row) != r.Count {
		return false
	}
	for _, entry := range row {
		if entry != none && !isState(r, entry) {
			return false
		}
	}
	return true
}

func labelsMayBe(r api.Rows) bool {
	for _, rule := range r.Label {
		if rule < none || rule >= api.MaxRules {
			return false
		}
	}
	return true
}

func isState(r api.Rows, state int) bool {
	return state >= 0 && state < len(r.Next)
}
