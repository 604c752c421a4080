package subset_test

import (
	"errors"
	"fmt"
	"reflect"
	"slices"
	"testing"

	"bolter/api"
	"bolter/byteset"
	"bolter/fault"
	"bolter/follow"
	"bolter/samples"
	"bolter/subset"
)

// The parts of expressions, and others, by short names.
var (
	empty, set, alt   = samples.Empty, samples.Set, samples.Alt
	plus, maybe, rule = samples.Plus, samples.Maybe, samples.Rule
	upTo              = samples.UpTo
	two, states       = samples.Two, samples.States
	shown, listsOf    = samples.DenseText, samples.DenseLists
	foundFrom0        = samples.FoundFrom0
)

// followOf tells the automaton of positions of a rule file.
func followOf(t *testing.T, text string) api.Follow {
	t.Helper()
	f, err := samples.Follow(text)
	if err != nil {
		t.Fatalf("%q: %v", text, err)
	}
	return f
}

// placed tells the automaton of positions of cores.
func placed(t *testing.T, l []api.Core) api.Follow {
	t.Helper()
	f, err := follow.Build(l)
	if err != nil {
		t.Fatalf("%s: %v", short(l), err)
	}
	return f
}

// built tells one mode's automaton, which may be.
func built(t *testing.T, what any, f api.Follow, active []int) api.Dense {
	t.Helper()
	d, err := subset.Build(f, active)
	if err != nil {
		t.Fatalf("%s, %v: %v", short(what), active, err)
	}
	if !subset.Check(d) {
		t.Fatalf("%s, %v: %s may not be", short(what), active, short(shown(d)))
	}
	return d
}

func wantDense(t *testing.T, what any, f api.Follow, active []int, want api.Dense) {
	t.Helper()
	if got := built(t, what, f, active); !reflect.DeepEqual(got, want) {
		t.Errorf("%s, %v: %s, want %s", short(what), active, short(shown(got)), short(shown(want)))
	}
}

// wantFault asks of both calls for an error that says just its code, and for nothing beside it.
func wantFault(t *testing.T, what any, f api.Follow, active []int, code int) {
	t.Helper()
	d, err := subset.Build(f, active)
	if len(d.Next) > 0 || len(d.Label) > 0 || !isFault(err, code) {
		t.Errorf("%s, %v: %s, %+v", short(what), short(active), short(shown(d)), fault.Tell(err))
	}
	wantNoModes(t, what, f, [][]int{active}, code)
}

func wantNoModes(t *testing.T, what any, f api.Follow, active [][]int, code int) {
	t.Helper()
	l, err := subset.All(f, active)
	if len(l) > 0 || !isFault(err, code) {
		t.Errorf("%s, %v: %d automata, %+v", short(what), short(active), len(l), fault.Tell(err))
	}
}

func isFault(err error, code int) bool {
	return reflect.DeepEqual(fault.Tell(err), api.Fault{Code: code}) && errors.Is(err, fault.Of(code))
}

// wantModes asks for as many states as these in each mode's automaton, and that each is what Build tells.
func wantModes(t *testing.T, what any, f api.Follow, active [][]int, states ...int) {
	t.Helper()
	l, err := subset.All(f, active)
	if len(l) != len(states) || err != nil {
		t.Fatalf("%s, %v: %d automata, %v", short(what), short(active), len(l), err)
	}
	for i, d := range l {
		if len(d.Next) != states[i] {
			t.Errorf("%s: mode %d has %d states, want %d", short(what), i, len(d.Next), states[i])
		}
		wantDense(t, what, f, active[i], d)
	}
}

// short is the beginning of what may be long.
func short(x any) string {
	text := fmt.Sprintf("%+v", x)
	return text[:min(len(text), 600)]
}

// formal reads the chapter's words once more: sets are rising lists, known by how they print.
type formal struct {
	f       api.Follow
	found   [][]int
	numbers map[string]int
	dense   api.Dense
}

// formally tells the automaton of a mode, and how many reached sets there are.
func formally(f api.Follow, active []int) (api.Dense, int) {
	m := formal{f: f, numbers: map[string]int{}}
	var start []int
	for _, r := range active {
		start = append(start, f.First[r]...)
	}
	m.number(start)
	for s := 0; s < len(m.found); s++ {
		row := make([]int, 256)
		for b := range row {
			row[b] = m.number(m.lead(m.found[s], byte(b)))
		}
		m.dense.Next = append(m.dense.Next, row)
	}
	m.numbers[fmt.Sprint([]int{})] = -1
	return m.dense, len(m.numbers)
}

func (m *formal) number(s []int) int {
	slices.Sort(s)
	s = slices.Compact(s)
	if n, ok := m.numbers[fmt.Sprint(s)]; ok {
		return n
	}
	m.numbers[fmt.Sprint(s)] = len(m.found)
	m.found = append(m.found, s)
	label := -1
	for _, p := range s {
		if r := p - len(m.f.Sets); r >= 0 && (label < 0 || r < label) {
			label = r
		}
	}
	m.dense.Label = append(m.dense.Label, label)
	return len(m.found) - 1
}

func (m *formal) lead(from []int, b byte) []int {
	var to []int
	for _, p := range from {
		if p < len(m.f.Sets) && byteset.Has(m.f.Sets[p], b) {
			to = append(to, m.f.Next[p]...)
		}
	}
	return to
}

// wantFormal asks for what the second reading tells.
func wantFormal(t *testing.T, what any, f api.Follow, active []int) {
	t.Helper()
	d, count := formally(f, active)
	if count > api.MaxStates {
		wantFault(t, what, f, active, api.CodeTooManyStates)
		return
	}
	wantDense(t, what, f, active, d)
}

// chance makes what tests are tried on of a row of numbers.
type chance struct{ samples.Chance }

func (c *chance) core(deep int) api.Expr {
	return c.Core(deep, "", "a", "b", "ab", "a\x00", "b\xff")
}

func (c *chance) rules(deep int) []api.Core {
	return c.Rules(4, deep, "", "a", "b", "ab", "a\x00", "b\xff")
}

// some is some of the numbers below n, rising.
func (c *chance) some(n int) []int {
	var l []int
	for i := range n {
		if c.Of(3) > 0 {
			l = append(l, i)
		}
	}
	return l
}

// follow makes an automaton of positions that may be, as no rules bring it forth.
func (c *chance) follow(rules, positions int) api.Follow {
	f := api.Follow{First: make([][]int, rules)}
	for r := range rules {
		begin := len(f.Sets)
		for range c.Of(positions + 1) {
			f.Sets = append(f.Sets, byteset.Of([]byte(c.Text(4))...))
			f.Rules = append(f.Rules, r)
		}
		f.Next = append(f.Next, slices.Repeat([][]int{upTo(begin, len(f.Sets)-1)}, len(f.Sets)-begin)...)
		f.First[r] = upTo(begin, len(f.Sets)-1)
	}
	for r, own := range f.First {
		f.First[r] = c.row(own, len(f.Sets)+r)
	}
	for p, own := range f.Next {
		f.Next[p] = c.row(own, len(f.Sets)+f.Rules[p])
	}
	return f
}

// row is some of a rule's places.
func (c *chance) row(own []int, end int) []int {
	var l []int
	for _, p := range append(slices.Clone(own), end) {
		if c.Of(3) == 0 {
			l = append(l, p)
		}
	}
	return l
}

// ring is an automaton of one rule whose positions, so many, lead each by these bytes to the one behind, the last to the first.
func ring(n int, bytes api.Set) api.Follow {
	f := api.Follow{Sets: slices.Repeat([]api.Set{bytes}, n), Rules: make([]int, n), First: [][]int{{0}}}
	for p := range n {
		f.Next = append(f.Next, []int{(p + 1) % n})
	}
	return f
}

// rings is an automaton of such rings, a rule each.
func rings(bytes api.Set, sizes ...int) api.Follow {
	var f api.Follow
	for r, n := range sizes {
		begin := len(f.Sets)
		one := ring(n, bytes)
		for p := range n {
			f.Next = append(f.Next, []int{begin + one.Next[p][0]})
		}
		f.Sets = append(f.Sets, one.Sets...)
		f.Rules = append(f.Rules, slices.Repeat([]int{r}, n)...)
		f.First = append(f.First, []int{begin})
	}
	return f
}
