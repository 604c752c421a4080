package comb_test

import (
	"math"
	"slices"
	"testing"

	"bolter/api"
	"bolter/comb"
	"bolter/samples"
)

// P16.1

func wantCheck(t *testing.T, what any, c api.Comb, classes int, want bool) {
	t.Helper()
	if got := comb.Check(c, classes); got != want || mayBe(c, classes) != want {
		t.Errorf("%s may be, with %d classes: %v", short(what), classes, got)
	}
}

func TestCombsThatMayBe(t *testing.T) {
	for what, change := range map[string]func(c *api.Comb){
		"as it is":                          func(c *api.Comb) {},
		"one state, no slots":               func(c *api.Comb) { *c = api.Comb{Base: []int{0}, Default: []int{-1}} },
		"empty slots":                       func(c *api.Comb) { *c = api.Comb{Base: []int{0}, Default: []int{-1}, Next: []int{}, Check: []int{}} },
		"no slots, the greatest base":       func(c *api.Comb) { *c = api.Comb{Base: []int{1 << 18}, Default: []int{-1}} },
		"one state, one slot":               func(c *api.Comb) { *c = freeSlots(1, 0) },
		"no defaults":                       func(c *api.Comb) { c.Default = []int{-1, -1, -1, -1} },
		"each has the one below":            func(c *api.Comb) { c.Default = []int{-1, 0, 1, 2} },
		"all have the first":                func(c *api.Comb) { c.Default = []int{-1, 0, 0, 0} },
		"the default of another's default":  func(c *api.Comb) { c.Default = []int{-1, -1, 1, 1} },
		"600 states":                        func(c *api.Comb) { *c = chainOf(600) },
		"2^18 slots":                        func(c *api.Comb) { *c = freeSlots(1<<18, 1<<18-1) },
		"2^18 slots, of class 2":            func(c *api.Comb) { *c = freeSlots(1<<18, 1<<18-3) },
		"a base behind all slots":           func(c *api.Comb) { c.Base[2] = 6 },
		"the greatest base":                 func(c *api.Comb) { c.Base[2] = 1 << 18 },
		"a slot that says what others say":  func(c *api.Comb) { c.Check[1], c.Next[1] = 0, -1 },
		"a slot that could be slid":         func(c *api.Comb) { c.Base[3], c.Check[4], c.Next[4] = 3, 3, -1 },
		"entries of nobody, at first":       func(c *api.Comb) { c.Check[0], c.Next[0] = -1, -1 },
		"nothing but the last":              func(c *api.Comb) { c.Check, c.Next = []int{-1, -1, -1, -1, 3}, []int{-1, -1, -1, -1, 0} },
		"slots of the last state alone":     func(c *api.Comb) { c.Check, c.Next = []int{-1, -1, 3, 3, 3}, []int{-1, -1, 3, -1, 0} },
		"a last slot that leads nowhere":    func(c *api.Comb) { c.Next[4] = -1 },
		"all slots lead to the last state":  func(c *api.Comb) { c.Next = []int{3, -1, 3, 3, 3} },
		"all bases alike":                   func(c *api.Comb) { c.Base, c.Check = []int{2, 2, 2, 2}, []int{-1, -1, 0, 1, 2}; c.Next[0] = -1 },
		"a base at the last slot of others": func(c *api.Comb) { c.Base[3] = 4 },
	} {
		c := samples.Comb()
		change(&c)
		wantCheck(t, what, c, 3, true)
		for _, classes := range []int{4, 5, 255, 256} {
			wantCheck(t, what, c, classes, true)
		}
		for _, classes := range []int{0, -1, -3, 257, 1 << 20, math.MaxInt, math.MinInt} {
			wantCheck(t, what, c, classes, false)
		}
	}
}

func TestCombsThatMayNotBe(t *testing.T) {
	for what, c := range samples.NotCombs() {
		for _, classes := range []int{1, 2, 3, 4, 255, 256} {
			wantCheck(t, what, c, classes, false)
		}
	}
}

// A slot lies among those of its state's classes.
func TestSlotsOfClasses(t *testing.T) {
	for slot := range 600 {
		for _, base := range []int{0, 1, 2, 255, 256, 257, 511, 512} {
			c := freeSlots(slot+1, base)
			for _, classes := range []int{1, 2, 3, 255, 256} {
				wantCheck(t, base, c, classes, base <= slot && slot-base < classes)
			}
		}
	}
	for _, classes := range []int{1, 2, 3, 127, 128, 255, 256} {
		wantCheck(t, "2^18 slots", freeSlots(1<<18, 1<<18-classes), classes, true)
		wantCheck(t, "2^18 slots", freeSlots(1<<18, 1<<18-classes-1), classes, false)
	}
	for _, base := range []int{1 << 18, 1<<18 + 1, 1<<18 - 257, math.MaxInt, math.MaxInt - 1, math.MaxInt - 255, math.MinInt} {
		wantCheck(t, base, freeSlots(1<<18, base), 256, false)
	}
}

// Each place of a comb is looked at.
func TestEachPlaceIsChecked(t *testing.T) {
	numbers := []int{-3, -2, -1, 0, 1, 2, 3, 4, 5, 6, 256, 1 << 18, 1<<18 + 1, math.MaxInt, math.MaxInt - 2, math.MinInt}
	for i, list := range samples.CombLists(samples.Comb()) {
		for j := range list {
			for _, n := range numbers {
				for _, classes := range []int{1, 2, 3, 4, 256} {
					c := samples.Comb()
					samples.CombLists(c)[i][j] = n
					wantCheck(t, shown(c), c, classes, mayBe(c, classes))
				}
			}
		}
	}
	for what, change := range map[string]func(c *api.Comb){
		"the last base": func(c *api.Comb) { c.Base[599] = -1 }, "the last default": func(c *api.Comb) { c.Default[599] = 599 }, "the last slot": func(c *api.Comb) { c.Check[1<<18-1] = 600 },
		"the last entry": func(c *api.Comb) { c.Next[1<<18-1] = 600 }, "a slot more": func(c *api.Comb) { c.Check, c.Next = append(c.Check, 599), append(c.Next, 0) }, "a state more": func(c *api.Comb) { c.Base, c.Default = append(c.Base, 0), append(c.Default, -1) },
		"an entry of nobody": func(c *api.Comb) { c.Next[1<<17] = 0 }, "the last slot is free": func(c *api.Comb) { c.Check[1<<18-1], c.Next[1<<18-1] = -1, -1 },
	} {
		wantCheck(t, "600 states, 2^18 slots", great(), 256, true)
		c := great()
		change(&c)
		wantCheck(t, what, c, 256, false)
	}
}

// great is a comb of as many states and slots as may be; the last slot is the last state's.
func great() api.Comb {
	c := freeSlots(1<<18, 0)
	c.Base, c.Default = slices.Repeat([]int{1<<18 - 256}, 600), upTo(-1, 598)
	c.Check[1<<18-1], c.Next[1<<18-1] = 599, 599
	return c
}

// wild makes a comb of a few states, which now and then may not be.
func (c *chance) wild() api.Comb {
	x := c.comb()
	if c.Of(2) == 0 {
		c.spoil(&x)
	}
	return x
}

// spoil writes any number at all somewhere, or cuts, or lengthens, a list.
func (c *chance) spoil(x *api.Comb) {
	n := []int{-2, -1, 0, 1, 2, 3, 1 << 18, 1<<18 + 1, math.MaxInt, math.MinInt}[c.Of(10)]
	switch c.Of(8) {
	case 0:
		x.Base = append(x.Base, n)
	case 1:
		x.Default = append(x.Default, n)
	case 2:
		x.Base, x.Default = append(x.Base, n), append(x.Default, n)
	case 3:
		x.Check, x.Next = append(x.Check, n), append(x.Next, -1)
	case 4:
		x.Check = x.Check[:c.Of(len(x.Check)+1)]
	default:
		list := samples.CombLists(*x)[c.Of(4)]
		if len(list) > 0 {
			list[c.Of(len(list))] = n
		}
	}
}

func TestChecksByChance(t *testing.T) {
	c := chance{1}
	may := 0
	for range 40000 {
		x := c.wild()
		classes := 1 + c.Of(4)
		want := mayBe(x, classes)
		if got := comb.Check(x, classes); got != want {
			t.Errorf("%+v may be, with %d classes: %v", x, classes, got)
		}
		if want {
			may++
		}
	}
	if min(may, 40000-may) < 10000 {
		t.Errorf("%d may be", may)
	}
}
