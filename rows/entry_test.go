package rows_test

import (
	"math"
	"testing"

	"bolter/api"
	"bolter/rows"
	"bolter/samples"
)

// P15.3

func TestEntries(t *testing.T) {
	r := built(t, "a", modesOf(t, `rule "a" => t`, []int{0}))
	wantEntry(t, "a", r, 0, 'a', 1)
	wantEntry(t, "a", r, 0, 'b', -1)
	wantEntry(t, "a", r, 0, 0, -1)
	wantEntry(t, "a", r, 0, 255, -1)
	wantEntry(t, "a", r, 1, 'a', -1)
	wantEntry(t, "no rules", built(t, "no rules", modesOf(t, ``, nil)), 0, 'a', -1)
	wantEntry(t, "one state", least(), 0, 255, -1)
	for what, r := range map[string]api.Rows{"three states": samples.Table(), "one state": least()} {
		for state, row := range r.Next {
			for b, class := range r.Classes {
				wantEntry(t, what, r, state, byte(b), row[class])
			}
		}
	}
	wide := great()
	for _, state := range []int{0, 1, 7, 255, 256, 344, 345, 598, 599} {
		for _, b := range []int{0, 1, 'a', 127, 128, 255} {
			wantEntry(t, "600 states", wide, state, byte(b), state%345-1+b)
		}
	}
}

func TestStatesThatAreNone(t *testing.T) {
	for what, r := range map[string]api.Rows{"three states": samples.Table(), "one state": least(), "600 states": great()} {
		n := len(r.Next)
		for _, state := range []int{-1, -2, n, n + 1, 256, 601, math.MaxInt, math.MinInt} {
			if state == 256 && n > 256 {
				continue
			}
			for _, b := range []byte{0, 'a', 255} {
				wantNoEntry(t, what, r, state, b)
			}
		}
	}
}

func TestEntriesOfThoseThatMayNotBe(t *testing.T) {
	for what, r := range samples.NotRows() {
		for _, state := range []int{-1, 0, 1, 2, 3, math.MaxInt, math.MinInt} {
			for _, b := range []byte{0, 'a', 'c', 255} {
				wantNoEntry(t, what, r, state, b)
			}
		}
	}
	c := chance{5}
	for range 2000 {
		r := c.wild()
		state, b := c.Of(len(r.Next)), byte(c.Of(256))
		if rows.Check(r) {
			wantEntry(t, r, r, state, b, r.Next[state][r.Classes[b]])
		} else {
			wantNoEntry(t, r, r, state, b)
		}
	}
}
