package length

import "bolter/api"

// cutOf tells a rule's cut, and whether it has one that is fixed.
func cutOf(c api.Core) (api.Cut, bool) {
	if !c.HasTrail {
		return api.Cut{Kind: api.CutNone}, true
	}
	head, trail := wordsOf(c.Head), wordsOf(c.Trail)
	if hasEmpty(head) {
		return api.Cut{}, false
	}
	if n, alike := oneLength(trail); alike {
		return api.Cut{Kind: api.CutTrail, N: n}, true
	}
	if n, alike := oneLength(head); alike {
		// A head without words matches nothing; its token, too, is told as one byte or more.
		return api.Cut{Kind: api.CutHead, N: max(n, 1)}, true
	}
	return api.Cut{}, false
}

func hasEmpty(w words) bool {
	least, some := shortest(w)
	return some && least == 0
}

// oneLength is whether no two words have unlike lengths, and the length that all have: 0, if there are none.
func oneLength(w words) (int, bool) {
	switch w := w.(type) {
	case none:
		return 0, true
	case bounded:
		return w.least, w.least == w.most
	}
	return 0, false
}
