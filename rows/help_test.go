package rows_test

import (
	"errors"
	"fmt"
	"reflect"
	"slices"
	"testing"

	"bolter/api"
	"bolter/fault"
	"bolter/rows"
	"bolter/samples"
	"bolter/subset"
)

// What tests are tried on, by short names.
var (
	byTwo, ringOf = samples.ByTwo, samples.Ring
	upTo, states  = samples.UpTo, samples.States
	shown         = samples.RowsText
)

// one is a list of one automaton.
func one(d api.Dense) []api.Dense {
	return []api.Dense{d}
}

// chance makes what tests are tried on of a row of numbers.
type chance struct{ samples.Chance }

// dense makes an automaton of a few states, of which some are dead.
func (c *chance) dense(most int) api.Dense {
	d := c.Dense(1+c.Of(most), 2)
	for s := range d.Next {
		if c.Of(2) == 0 {
			d.Label[s] = -1
		}
		if c.Of(2) == 0 {
			d.Next[s] = slices.Repeat([]int{c.Of(len(d.Next))}, 256)
		}
	}
	return d
}

func (c *chance) automata(most, states int) []api.Dense {
	var l []api.Dense
	for range 1 + c.Of(most) {
		l = append(l, c.dense(states))
	}
	return l
}

func (c *chance) rules() []api.Core {
	return c.Rules(4, 3, "", "a", "b", "ab", "a\x00", "b\xff")
}

// some makes a list of rules that are active: each may be.
func (c *chance) some(rules int) []int {
	var l []int
	for r := range rules {
		if c.Of(3) > 0 {
			l = append(l, r)
		}
	}
	return l
}

func (c *chance) modes(rules int) [][]int {
	var l [][]int
	for range 1 + c.Of(4) {
		l = append(l, c.some(rules))
	}
	return l
}

// modesOf tells the automata of a rule file, in modes with these active rules.
func modesOf(t *testing.T, text string, active ...[]int) []api.Dense {
	t.Helper()
	l, err := samples.Cores(text)
	if err != nil {
		t.Fatalf("%q: %v", text, err)
	}
	return modesBy(t, l, active...)
}

func modesBy(t *testing.T, l []api.Core, active ...[]int) []api.Dense {
	t.Helper()
	var out []api.Dense
	for _, row := range active {
		d, err := samples.Dense(l, row...)
		if err != nil {
			t.Fatalf("%s, %v: %v", short(l), row, err)
		}
		out = append(out, d)
	}
	return out
}

// built tells the table of automata, which may be.
func built(t *testing.T, what any, l []api.Dense) api.Rows {
	t.Helper()
	r, err := rows.Build(l)
	if err != nil {
		t.Fatalf("%s: %v", short(what), err)
	}
	if !rows.Check(r) {
		t.Fatalf("%s: %s may not be", short(what), short(shown(r)))
	}
	return r
}

func wantTable(t *testing.T, what any, l []api.Dense, want api.Rows) {
	t.Helper()
	if got := built(t, what, l); !reflect.DeepEqual(got, want) {
		t.Errorf("%s: %s, want %s", short(what), short(shown(got)), short(shown(want)))
	}
}

// wantShown asks for a table by its text.
func wantShown(t *testing.T, what any, l []api.Dense, want string) {
	t.Helper()
	if got := shown(built(t, what, l)); got != want {
		t.Errorf("%s: %s, want %s", short(what), got, want)
	}
}

// wantNoTable asks for CodeArg, with nothing else that it says, and for nothing beside it.
func wantNoTable(t *testing.T, what any, l []api.Dense) {
	t.Helper()
	if r, err := rows.Build(l); !isNone(r) || !isArg(err) {
		t.Errorf("%s: %s, %+v", short(what), short(shown(r)), fault.Tell(err))
	}
}

func isNone(r api.Rows) bool {
	return len(r.Classes)+r.Count+len(r.Starts)+len(r.Next)+len(r.Label) == 0
}

func wantEntry(t *testing.T, what any, r api.Rows, state int, b byte, want int) {
	t.Helper()
	if got, err := rows.Entry(r, state, b); got != want || err != nil {
		t.Errorf("%s: %d by %d: %d, %v; want %d", short(what), state, b, got, err, want)
	}
}

func wantNoEntry(t *testing.T, what any, r api.Rows, state int, b byte) {
	t.Helper()
	if got, err := rows.Entry(r, state, b); got != 0 || !isArg(err) {
		t.Errorf("%s: %d by %d: %d, %+v", short(what), state, b, got, fault.Tell(err))
	}
}

func isArg(err error) bool {
	return reflect.DeepEqual(fault.Tell(err), api.Fault{Code: api.CodeArg}) && errors.Is(err, fault.ErrArg)
}

// texts is automata as texts.
func texts(l []api.Dense) []string {
	var out []string
	for _, d := range l {
		out = append(out, samples.DenseText(d))
	}
	return out
}

// dead tells of each state whether all states that texts lead to from it on have no label.
func dead(d api.Dense) []bool {
	var l []bool
	for state := range d.Next {
		found, seen := []int{state}, make([]bool, len(d.Next))
		seen[state] = true
		for i := 0; i < len(found) && d.Label[found[i]] < 0; i++ {
			for _, to := range d.Next[found[i]] {
				if !seen[to] {
					found, seen[to] = append(found, to), true
				}
			}
		}
		l = append(l, !slices.ContainsFunc(found, func(s int) bool { return d.Label[s] >= 0 }))
	}
	return l
}

// row is a state of the table, as an automaton has it.
type row struct {
	next    []int
	entries []int // of each of the automaton's states
}

// tableBy reads P15.1 once more: each column is written down as a text, and looked for among those ahead.
func tableBy(l []api.Dense) api.Rows {
	r := api.Rows{Classes: make([]int, 256)}
	var all []row
	for _, d := range l {
		r.Starts = append(r.Starts, len(all))
		entries := slices.Repeat([]int{-1}, len(d.Next))
		for state, is := range dead(d) {
			if !is {
				entries[state] = len(all)
			}
			if !is || state == 0 {
				all, r.Label = append(all, row{d.Next[state], entries}), append(r.Label, d.Label[state])
			}
		}
	}
	r.Next = make([][]int, len(all))
	var columns []string
	for b := range 256 {
		column := make([]byte, 0, 2*len(all))
		for _, x := range all {
			entry := x.entries[x.next[b]]
			column = append(column, byte(entry), byte(entry>>8))
		}
		r.Classes[b] = slices.Index(columns, string(column))
		if r.Classes[b] < 0 {
			r.Classes[b], columns = len(columns), append(columns, string(column))
			for i, x := range all {
				r.Next[i] = append(r.Next[i], x.entries[x.next[b]])
			}
		}
	}
	r.Count = len(columns)
	return r
}

func wantFormal(t *testing.T, what any, l []api.Dense) {
	t.Helper()
	wantTable(t, what, l, tableBy(l))
}

// behind tells the entry that comes behind a text, by entries from a state on.
func behind(r api.Rows, state int, text string) int {
	for i := 0; i < len(text) && state >= 0; i++ {
		state = r.Next[state][r.Classes[text[i]]]
	}
	return state
}

// stateBehind is that of an automaton behind a text.
func stateBehind(t *testing.T, d api.Dense, text string) int {
	t.Helper()
	s, err := subset.Run(d, []byte(text))
	if err != nil {
		t.Fatal(err)
	}
	return s
}

// short is the beginning of what may be long.
func short(x any) string {
	text := fmt.Sprintf("%+v", x)
	return text[:min(len(text), 600)]
}
