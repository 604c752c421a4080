package samples

import (
	"math"
	"slices"
	"strconv"
	"strings"

	"bolter/api"
)

// Comb is one of four states and three classes: state 2 has no slots of its own, state 3 has the last one.
func Comb() api.Comb {
	return api.Comb{Base: []int{0, 1, 0, 2}, Default: []int{-1, 0, 1, 0}, Next: []int{1, -1, 0, -1, 3}, Check: []int{0, -1, 0, 1, 3}}
}

// CombText is a comb as a text: of each state its base and default; of each slot whose it is, and its entry.
func CombText(c api.Comb) string {
	var states, slots []string
	for state, base := range c.Base {
		states = append(states, strconv.Itoa(base)+"/"+strconv.Itoa(c.Default[state]))
	}
	for at, state := range c.Check {
		text := "-"
		if state != -1 || c.Next[at] != -1 {
			text = strconv.Itoa(state) + ":" + strconv.Itoa(c.Next[at])
		}
		slots = append(slots, text)
	}
	return strings.Join(states, " ") + "; " + strings.Join(slots, " ")
}

// CombPieces makes each list of a comb a piece of a longer one.
func CombPieces(c api.Comb) api.Comb {
	return api.Comb{Base: PieceOf(c.Base, -9), Default: PieceOf(c.Default, -9), Next: PieceOf(c.Next, -9), Check: PieceOf(c.Check, -9)}
}

// CombLongs tells a comb with what lies behind its lists.
func CombLongs(c api.Comb) api.Comb {
	l := CombLists(c)
	return api.Comb{Base: slices.Clone(l[0]), Default: slices.Clone(l[1]), Next: slices.Clone(l[2]), Check: slices.Clone(l[3])}
}

// CombLists is all lists of a comb, each up to its capacity.
func CombLists(c api.Comb) [][]int {
	return [][]int{c.Base[:cap(c.Base)], c.Default[:cap(c.Default)], c.Next[:cap(c.Next)], c.Check[:cap(c.Check)]}
}

// FreeSlots is a comb of one state and of so many slots: the last one is the state's, if its base lets it be.
func FreeSlots(slots, base int) api.Comb {
	c := api.Comb{Base: []int{base}, Default: []int{-1}, Next: slices.Repeat([]int{-1}, slots), Check: slices.Repeat([]int{-1}, slots)}
	c.Check[slots-1] = 0
	return c
}

// Chain is a comb of so many states, each of which has the one below as its default; the first leads to itself by class 0.
func Chain(states int) api.Comb {
	return api.Comb{Base: make([]int, states), Default: UpTo(-1, states-2), Next: []int{0}, Check: []int{0}}
}

// NotCombs tells combs that may not be, with however many classes, from unlike causes.
func NotCombs() map[string]api.Comb {
	l := map[string]api.Comb{"nothing": {}, "no states": {Base: []int{}, Default: []int{}}, "601 states": Chain(601), "very many states": Chain(1 << 20), "2^18 slots and one": FreeSlots(1<<18+1, 1<<18), "very many slots": FreeSlots(1<<21, 1<<18)}
	for what, change := range badCombs() {
		c := Comb()
		change(&c)
		l[what] = c
	}
	return l
}

func badCombs() map[string]func(c *api.Comb) {
	return map[string]func(c *api.Comb){
		// lists that are too long, or too short
		"no bases": func(c *api.Comb) { c.Base = nil }, "a base less": func(c *api.Comb) { c.Base = c.Base[:3] }, "a base more": func(c *api.Comb) { c.Base = append(c.Base, 0) },
		"no defaults": func(c *api.Comb) { c.Default = nil }, "a default less": func(c *api.Comb) { c.Default = c.Default[:3] }, "a default more": func(c *api.Comb) { c.Default = append(c.Default, -1) },
		"no entries": func(c *api.Comb) { c.Next = nil }, "an entry less": func(c *api.Comb) { c.Next = c.Next[:4] }, "an entry more": func(c *api.Comb) { c.Next = append(c.Next, -1) },
		"no owners": func(c *api.Comb) { c.Check = nil }, "an owner less": func(c *api.Comb) { c.Check = c.Check[:4] }, "an owner more": func(c *api.Comb) { c.Check = append(c.Check, 3) },
		"no states, but slots": func(c *api.Comb) { c.Base, c.Default = nil, nil },
		// bases
		"base -1": func(c *api.Comb) { c.Base[0] = -1 }, "base -1, last": func(c *api.Comb) { c.Base[3] = -1 }, "base 2^18 and one": func(c *api.Comb) { c.Base[2] = 1<<18 + 1 },
		"the greatest base": func(c *api.Comb) { c.Base[0] = math.MaxInt }, "the greatest base, without slots": func(c *api.Comb) { c.Base[2] = math.MaxInt }, "the least base": func(c *api.Comb) { c.Base[3] = math.MinInt }, "the least base, without slots": func(c *api.Comb) { c.Base[2] = math.MinInt },
		"a base behind its slot": func(c *api.Comb) { c.Base[0] = 1 }, "a base behind its slot, last": func(c *api.Comb) { c.Base[3] = 5 },
		// defaults
		"default 0 of 0": func(c *api.Comb) { c.Default[0] = 0 }, "default 2 of 2": func(c *api.Comb) { c.Default[2] = 2 }, "default 3 of 3": func(c *api.Comb) { c.Default[3] = 3 },
		"a default above": func(c *api.Comb) { c.Default[0] = 1 }, "a default above, later": func(c *api.Comb) { c.Default[2] = 3 }, "default 4": func(c *api.Comb) { c.Default[3] = 4 },
		"default -2": func(c *api.Comb) { c.Default[0] = -2 }, "default -2, last": func(c *api.Comb) { c.Default[3] = -2 }, "the greatest default": func(c *api.Comb) { c.Default[3] = math.MaxInt }, "the least default": func(c *api.Comb) { c.Default[1] = math.MinInt },
		// whose slots are
		"owner 4": func(c *api.Comb) { c.Check[2] = 4 }, "owner 4, last": func(c *api.Comb) { c.Check[4] = 4 }, "owner -2": func(c *api.Comb) { c.Check[1] = -2 }, "owner -2, last": func(c *api.Comb) { c.Check[4] = -2 },
		"the greatest owner": func(c *api.Comb) { c.Check[0] = math.MaxInt }, "the least owner": func(c *api.Comb) { c.Check[3] = math.MinInt }, "a slot ahead of the base": func(c *api.Comb) { c.Check[0] = 1 }, "another one ahead of it": func(c *api.Comb) { c.Check[1] = 3 },
		"the last slot is free": func(c *api.Comb) { c.Check[4], c.Next[4] = -1, -1 }, "all slots are free": func(c *api.Comb) { c.Check, c.Next = slices.Repeat([]int{-1}, 5), slices.Repeat([]int{-1}, 5) }, "one slot, which is free": func(c *api.Comb) { c.Check, c.Next = []int{-1}, []int{-1} },
		// entries
		"entry 4": func(c *api.Comb) { c.Next[0] = 4 }, "entry 4, last": func(c *api.Comb) { c.Next[4] = 4 }, "entry -2": func(c *api.Comb) { c.Next[2] = -2 }, "entry -2, last": func(c *api.Comb) { c.Next[4] = -2 },
		"the greatest entry": func(c *api.Comb) { c.Next[3] = math.MaxInt }, "the least entry": func(c *api.Comb) { c.Next[2] = math.MinInt },
		"an entry of nobody": func(c *api.Comb) { c.Next[1] = 0 }, "entry -2 of nobody": func(c *api.Comb) { c.Next[1] = -2 }, "entry 4 of nobody": func(c *api.Comb) { c.Next[1] = 4 },
	}
}
