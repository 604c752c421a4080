package comb_test

import (
	"math"
	"testing"

	"bolter/api"
	"bolter/comb"
	"bolter/samples"
)

// P16.3

func TestLooks(t *testing.T) {
	c := samples.Comb()
	for _, x := range []struct{ state, class, entry, probes int }{
		{0, 0, 1, 1}, {0, 1, -1, 1}, {0, 2, 0, 1}, {0, 3, -1, 1}, {0, 255, -1, 1}, // its slots, a free one, another's, none
		{1, 0, 1, 2}, {1, 1, -1, 2}, {1, 2, -1, 1}, {1, 3, -1, 2}, {1, 255, -1, 2}, // -1 of its own, where its default has 0
		{2, 0, 1, 3}, {2, 1, -1, 3}, {2, 2, -1, 2}, {2, 3, -1, 3},
		{3, 0, 1, 2}, {3, 1, -1, 2}, {3, 2, 3, 1}, {3, 3, -1, 2},
	} {
		wantLook(t, "four states", c, x.state, x.class, x.entry, x.probes)
	}
	nothing := packed(t, "the document's", tableOf([]int{-1}))
	two := packed(t, "the document's", tableOf([]int{-1, 1}, []int{-1, 1}))
	for _, class := range []int{0, 1, 2, 255} {
		wantLook(t, "nothing", nothing, 0, class, -1, 1)
		entry := -1
		if class == 1 {
			entry = 1
		}
		wantLook(t, "two", two, 0, class, entry, 1)
		wantLook(t, "two", two, 1, class, entry, 2)
	}
}

// Each default is a probe more; the chain ends at the entry, or at a state without a default.
func TestChains(t *testing.T) {
	for _, states := range []int{1, 2, 3, 17, 599, 600} {
		c := chainOf(states)
		for s := range states {
			wantLook(t, "a chain", c, s, 0, 0, s+1)
			wantLook(t, "a chain", c, s, 1, -1, s+1)
			wantLook(t, "a chain", c, s, 255, -1, s+1)
		}
		half := states / 2
		c.Check[0], c.Next[0] = half, -1
		for s := range states {
			probes := s + 1
			if s >= half {
				probes = s - half + 1
			}
			wantLook(t, "one owns the slot", c, s, 0, -1, probes)
		}
		c.Next[0], c.Default[half] = states-1, -1
		for s := half; s < states; s++ {
			wantLook(t, "the chain is cut", c, s, 0, states-1, s-half+1)
			wantLook(t, "the chain is cut", c, s, 7, -1, s-half+1)
		}
	}
}

// A slot behind the last one is none, however far; and a base may be as great as no slot is.
func TestSlotsThatAreNone(t *testing.T) {
	c := api.Comb{Base: []int{0, 1 << 18, 2, 3}, Default: []int{-1, 0, 1, -1}, Next: []int{3, 2, 1}, Check: []int{0, 0, 2}}
	wantLook(t, "beyond", c, 1, 0, 3, 2)
	wantLook(t, "beyond", c, 1, 255, -1, 2)
	wantLook(t, "beyond", c, 2, 0, 1, 1)
	wantLook(t, "beyond", c, 2, 1, 2, 3)
	wantLook(t, "beyond", c, 3, 0, -1, 1)
	wantLook(t, "beyond", c, 3, 255, -1, 1)
	wantLook(t, "2^18 slots", freeSlots(1<<18, 1<<18-256), 0, 255, -1, 1)
	wantLook(t, "2^18 slots", great(), 599, 255, 599, 1)
	wantLook(t, "2^18 slots", great(), 599, 254, -1, 600)
	wantLook(t, "2^18 slots", great(), 598, 255, -1, 599)
}

func TestArgumentsThatMayNotBe(t *testing.T) {
	for what, c := range map[string]api.Comb{"four states": samples.Comb(), "a chain": chainOf(600), "one state": freeSlots(1, 0), "no slots": {Base: []int{0}, Default: []int{-1}}, "2^18 slots": great()} {
		n := len(c.Base)
		for _, state := range []int{-1, -2, n, n + 1, 601, 1 << 18, math.MaxInt, math.MinInt} {
			for _, class := range []int{-1, 0, 1, 255, 256} {
				wantNoLook(t, what, c, state, class)
			}
		}
		for _, state := range []int{0, n - 1} {
			for _, class := range []int{-1, -2, 256, 257, 1 << 18, math.MaxInt, math.MinInt} {
				wantNoLook(t, what, c, state, class)
			}
		}
	}
}

func TestLooksAtThoseThatMayNotBe(t *testing.T) {
	for what, c := range samples.NotCombs() {
		for _, state := range []int{-1, 0, 1, 2, 3, 4} {
			for _, class := range []int{-1, 0, 2, 255, 256} {
				wantNoLook(t, what, c, state, class)
			}
		}
	}
	wantNoLook(t, "a slot of class 256", freeSlots(257, 0), 0, 0)
	wantLook(t, "a slot of class 255", freeSlots(256, 0), 0, 0, -1, 1)
}

// Combs that no Pack has made are looked at likewise; how many classes there are is not asked.
func TestLooksByChance(t *testing.T) {
	c := chance{6}
	own, left, refused := 0, 0, 0
	for range 20000 {
		x := c.wild()
		state, class := c.Of(len(x.Base)+1), c.Of(5)
		if !mayBe(x, 256) || state >= len(x.Base) {
			wantNoLook(t, x, x, state, class)
			refused++
			continue
		}
		entry, probes := entryOf(x, state, class)
		wantLook(t, x, x, state, class, entry, probes)
		if comb.Check(x, 3) && entry >= 0 {
			if probes == 1 {
				own++
			} else {
				left++
			}
		}
	}
	if min(own, left, refused) < 300 {
		t.Errorf("%d entries are the state's own, %d a default's; %d are refused", own, left, refused)
	}
}
