package comb_test

import (
	"errors"
	"fmt"
	"reflect"
	"slices"
	"testing"

	"bolter/api"
	"bolter/comb"
	"bolter/fault"
	"bolter/rows"
	"bolter/samples"
)

// What tests are tried on, by short names.
var (
	tableOf, chainOf, freeSlots = samples.TableOf, samples.Chain, samples.FreeSlots
	upTo                        = samples.UpTo
	shown                       = samples.CombText
)

// chance makes what tests are tried on of a row of numbers.
type chance struct{ samples.Chance }

// table makes one whose entries are often those of a row ahead, or none.
func (c *chance) table(states, classes int) api.Rows {
	var next [][]int
	for s := range states {
		row := slices.Repeat([]int{-1}, classes)
		if s > 0 && c.Of(2) == 0 {
			row = slices.Clone(next[c.Of(s)])
		}
		for range c.Of(classes + 1) {
			row[c.Of(classes)] = c.Of(states+1) - 1
		}
		next = append(next, row)
	}
	return tableOf(next...)
}

// comb makes one of a few states that may be, with three classes.
func (c *chance) comb() api.Comb {
	var x api.Comb
	states := 1 + c.Of(5)
	for s := range states {
		x.Base, x.Default = append(x.Base, c.Of(6)), append(x.Default, c.Of(s+1)-1)
	}
	for at := range c.Of(9) {
		s, to := c.Of(states), c.Of(states+1)-1
		for s >= 0 && (at < x.Base[s] || at > x.Base[s]+2) {
			s--
		}
		if s < 0 {
			to = -1
		}
		x.Check, x.Next = append(x.Check, s), append(x.Next, to)
	}
	for len(x.Check) > 0 && x.Check[len(x.Check)-1] == -1 {
		x.Check, x.Next = x.Check[:len(x.Check)-1], x.Next[:len(x.Check)-1]
	}
	return x
}

// tableOfRules tells the table of a rule file, in modes with these active rules.
func tableOfRules(t *testing.T, text string, active ...[]int) api.Rows {
	t.Helper()
	l, err := samples.Cores(text)
	if err != nil {
		t.Fatalf("%q: %v", text, err)
	}
	return tableBy(t, l, active...)
}

func tableBy(t *testing.T, l []api.Core, active ...[]int) api.Rows {
	t.Helper()
	var modes []api.Dense
	for _, row := range active {
		d, err := samples.Dense(l, row...)
		if err != nil {
			t.Fatal(err)
		}
		modes = append(modes, d)
	}
	r, err := rows.Build(modes)
	if err != nil {
		t.Fatal(err)
	}
	return r
}

func packed(t *testing.T, what any, r api.Rows) api.Comb {
	t.Helper()
	c, err := comb.Pack(r)
	if err != nil {
		t.Fatalf("%s: %v", short(what), err)
	}
	return c
}

// wantRight asks for all that P16.2 says of a table's comb.
func wantRight(t *testing.T, what any, r api.Rows) api.Comb {
	t.Helper()
	c := packed(t, what, r)
	if bad := wrong(c, r); bad != "" {
		t.Errorf("%s: %s: %s, of %s", short(what), bad, short(shown(c)), short(samples.RowsText(r)))
	}
	return c
}

// wrong tells what is not as P16.2 says.
func wrong(c api.Comb, r api.Rows) string {
	if !comb.Check(c, r.Count) || !mayBe(c, r.Count) || len(c.Base) != len(r.Next) {
		return "it may not be"
	}
	own := make([]int, len(r.Next)) // how many slots a state has
	for _, s := range c.Check {
		if s >= 0 {
			own[s]++
		}
	}
	for s, row := range r.Next {
		live, bad := liveOf(c, s, row)
		switch {
		case bad != "":
			return bad
		case len(live) != own[s]:
			return fmt.Sprintf("state %d has %d slots, and live: %v", s, own[s], live)
		}
		if d := lower(c, s, live); d >= 0 {
			return fmt.Sprintf("state %d can be slid to %d", s, d)
		}
	}
	return ""
}

// liveOf tells a state's live classes, and what is wrong with its entries.
func liveOf(c api.Comb, s int, row []int) (live []int, bad string) {
	for class, want := range row {
		if got, _ := entryOf(c, s, class); got != want {
			return nil, fmt.Sprintf("state %d, class %d: %d, want %d", s, class, got, want)
		}
		other, _ := entryOf(c, c.Default[s], class)
		if want != other {
			live = append(live, class)
		}
		if (owner(c, c.Base[s]+class) == s) != (want != other) {
			return nil, fmt.Sprintf("state %d, class %d: its slot is %d's", s, class, owner(c, c.Base[s]+class))
		}
	}
	return live, ""
}

// lower tells the least base below a state's own at which its live entries would meet no other's slot; -1: there is none.
func lower(c api.Comb, s int, live []int) int {
	for d := range c.Base[s] {
		if !slices.ContainsFunc(live, func(class int) bool { x := owner(c, d+class); return x != -1 && x != s }) {
			return d
		}
	}
	return -1
}

func owner(c api.Comb, at int) int {
	if at >= len(c.Check) {
		return -1
	}
	return c.Check[at]
}

// entryOf reads the chapter's words once more: an entry, and how many states are looked at.
func entryOf(c api.Comb, s, class int) (entry, probes int) {
	for ; s != -1; s = c.Default[s] {
		probes++
		if at := c.Base[s] + class; owner(c, at) == s {
			return c.Next[at], probes
		}
	}
	return -1, probes
}

// mayBe reads P16.1 once more.
func mayBe(c api.Comb, classes int) bool {
	states, slots := len(c.Base), len(c.Check)
	if classes < 1 || classes > 256 || states < 1 || states > 600 || len(c.Default) != states || slots > 1<<18 || len(c.Next) != slots {
		return false
	}
	for s, base := range c.Base {
		if base < 0 || base > 1<<18 || c.Default[s] < -1 || c.Default[s] >= s {
			return false
		}
	}
	for at, s := range c.Check {
		free := s == -1 && c.Next[at] == -1 && at < slots-1
		if !free && (s < 0 || s >= states || at-c.Base[s] < 0 || at-c.Base[s] >= classes || c.Next[at] < -1 || c.Next[at] >= states) {
			return false
		}
	}
	return true
}

// wantNoComb asks for CodeArg, with nothing else that it says, and for nothing beside it.
func wantNoComb(t *testing.T, what any, r api.Rows) {
	t.Helper()
	if c, err := comb.Pack(r); len(c.Base)+len(c.Default)+len(c.Next)+len(c.Check) > 0 || !isArg(err) {
		t.Errorf("%s: %s, %+v", short(what), short(shown(c)), fault.Tell(err))
	}
}

func wantLook(t *testing.T, what any, c api.Comb, state, class, entry, probes int) {
	t.Helper()
	if x, n, err := comb.Look(c, state, class); x != entry || n != probes || err != nil {
		t.Errorf("%s: %d by %d: %d, %d probes, %v; want %d, %d", short(what), state, class, x, n, err, entry, probes)
	}
}

func wantNoLook(t *testing.T, what any, c api.Comb, state, class int) {
	t.Helper()
	if x, n, err := comb.Look(c, state, class); x != 0 || n != 0 || !isArg(err) {
		t.Errorf("%s: %d by %d: %d, %d probes, %+v", short(what), state, class, x, n, fault.Tell(err))
	}
}

func isArg(err error) bool {
	return reflect.DeepEqual(fault.Tell(err), api.Fault{Code: api.CodeArg}) && errors.Is(err, fault.ErrArg)
}

// short is the beginning of what may be long.
func short(x any) string {
	text := fmt.Sprintf("%+v", x)
	return text[:min(len(text), 600)]
}
