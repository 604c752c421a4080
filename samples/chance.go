package samples

import (
	"math"

	"bolter/api"
)

// Chance is a plain row of numbers: the same at every run.
type Chance uint64

// Of tells a number from 0 to n - 1.
func (c *Chance) Of(n int) int {
	*c = *c*6364136223846793005 + 1442695040888963407
	return int(uint64(*c) >> 33 % uint64(n))
}

// Core makes a core of sets of these bytes, of forms that expand makes and of others.
func (c *Chance) Core(deep int, sets ...string) api.Expr {
	kind := c.Of(10)
	if deep == 0 {
		kind = c.Of(4)
	}
	switch kind {
	case 0:
		return Empty()
	case 1, 2, 3:
		return Set(sets[c.Of(len(sets))])
	case 4, 5, 6:
		return Cat(c.cores(deep-1, sets)...)
	case 7, 8:
		return Alt(c.cores(deep-1, sets)...)
	}
	least, most := c.count()
	return Times(c.Core(deep-1, sets...), least, most)
}

func (c *Chance) cores(deep int, sets []string) []api.Expr {
	var l []api.Expr
	for range 2 + c.Of(2) {
		l = append(l, c.Core(deep, sets...))
	}
	return l
}

func (c *Chance) count() (least, most int) {
	switch c.Of(3) {
	case 0:
		return 0, -1
	case 1:
		return 1, -1
	}
	return 0, 1
}

// Rules makes at most so many rules, some of which have a trail.
func (c *Chance) Rules(most, deep int, sets ...string) []api.Core {
	var l []api.Core
	for range c.Of(most + 1) {
		r := Rule(c.Core(deep, sets...))
		if c.Of(3) == 0 {
			r = Trailed(r.Head, c.Core(deep, sets...))
		}
		l = append(l, r)
	}
	return l
}

// Text makes a text of at most so many bytes, mostly of a and b.
func (c *Chance) Text(most int) string {
	var text []byte
	for range c.Of(most + 1) {
		text = append(text, "aaaabbbb\x00\xff"[c.Of(10)])
	}
	return string(text)
}

// Wild makes an expression of any numbers at all.
func (c *Chance) Wild(deep int) api.Expr {
	some := []int{0, 0, 0, 0, 1, 1, -1, -1, 2, math.MaxInt, math.MinInt}
	e := api.Expr{Op: c.Of(10) - 1, Min: some[c.Of(len(some))], Max: some[c.Of(len(some))]}
	if c.Of(8) == 0 {
		e.At = some[c.Of(len(some))]
		e.Text = []string{"a", "", "\xff"}[c.Of(3)]
	}
	if c.Of(4) == 0 {
		e.Set[c.Of(4)] = uint64(*c)
	}
	for deep > 0 && c.Of(3) > 0 {
		e.Args = append(e.Args, c.Wild(deep-1))
	}
	return e
}
