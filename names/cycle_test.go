package names

import (
	"slices"
	"testing"

	"bolter/api"
	"bolter/fault"
)

// graphFile has a definition of each of some names; uses tells the numbers of those that each one uses, in any order.
func graphFile(names []string, uses [][]int) api.Spec {
	var s api.Spec
	for i, name := range names {
		e := alt(empty(), empty())
		for _, d := range uses[i] {
			e.Args = append(e.Args, ref(names[d]))
		}
		s.Defs = append(s.Defs, api.Def{Name: name, Expr: e})
	}
	return s
}

// P6.2: CodeDefCycle

func TestCycles(t *testing.T) {
	for text, want := range map[string]api.Fault{
		// the document's
		"let a = {b}\nlet b = {c} | {a}\nlet c = {c}": cycleOf("a", "b"),
		"let a = {b}\nlet b = {b}":                    cycleOf("b"),
		// the shortest
		"let a = {a}":                  cycleOf("a"),
		"let a = {b} {a}\nlet b = {a}": cycleOf("a"),
		"let a = {b}\nlet b = {c}\nlet c = {d}\nlet d = {a}":                  cycleOf("a", "b", "c", "d"),
		"let a = {b} {c}\nlet b = {d}\nlet c = {a}\nlet d = {a}":              cycleOf("a", "c"),
		"let a = {b} {d}\nlet b = {c}\nlet c = {a}\nlet d = {c}":              cycleOf("a", "b", "c"),
		"let a = {b} {d}\nlet b = {c}\nlet c = {e}\nlet d = {e}\nlet e = {a}": cycleOf("a", "d", "e"),
		// the least that reaches itself, by its number
		"let z = {y}\nlet y = {x}\nlet x = {y}":              cycleOf("y", "x"),
		"let c = {c}\nlet b = {b}\nlet a = {a}":              cycleOf("c"),
		"let a = {c}\nlet b = {a}\nlet c = {d}\nlet d = {c}": cycleOf("c", "d"),
		// of several as short the one by lesser definitions, wherever they are used
		"let a = {c}{b}\nlet b = {a}\nlet c = {a}":                           cycleOf("a", "b"),
		"let a = {b}{c}\nlet c = {a}\nlet b = {a}":                           cycleOf("a", "c"),
		"let a = {c}{b}\nlet b = {e}\nlet c = {d}\nlet d = {a}\nlet e = {a}": cycleOf("a", "b", "e"),
		"let a = {b}\nlet b = {d}{c}\nlet c = {a}\nlet d = {a}":              cycleOf("a", "b", "c"),
		"let a = {b}\nlet b = {c}{d}\nlet d = {a}\nlet c = {a}":              cycleOf("a", "b", "d"),
		// whatever the expression
		"let a = \"x\" | ([y] ({a}{0})?)*": cycleOf("a"),
		// rules are no matter
		"rule {b} / {a} => t\nlet b = ()\nlet a = {b} {a}": cycleOf("a"),
	} {
		wantFault(t, text, parsed(t, text), want)
	}
}

// A use of a definition that reaches itself is not a way back to the one that uses it.
func TestNoCycles(t *testing.T) {
	for _, text := range []string{"let a = ()", "let a = {b}{b}\nlet b = ()", "let a = {b}{c}\nlet b = {d}\nlet c = {d}\nlet d = ()", "let a = \"{a}\" [{a}]", "mode a\nlet a = ()\nrule <a> {a} => a, begin a"} {
		if _, err := Resolve(parsed(t, text)); err != nil {
			t.Errorf("%q: %v", text, err)
		}
	}
}

// Graphs of few definitions, all of them, held against all rows of their numbers.

// rowsOf tells all rows of unlike numbers below n, short ones first, of one length in order.
func rowsOf(n int) [][]int {
	all := [][]int{{}}
	for i := 0; i < len(all); i++ {
		for d := range n {
			if !slices.Contains(all[i], d) {
				all = append(all, append(slices.Clone(all[i]), d))
			}
		}
	}
	return all
}

// isWayBack is whether each one of a row uses the next one, the last one the first one.
func isWayBack(row []int, uses [][]int) bool {
	for i, d := range row {
		if !slices.Contains(uses[d], row[(i+1)%len(row)]) {
			return false
		}
	}
	return len(row) > 0
}

// firstWayBack asks all rows.
func firstWayBack(rows, uses [][]int) []int {
	var first []int
	for _, row := range rows {
		if isWayBack(row, uses) && (first == nil || row[0] < first[0]) {
			first = row
		}
	}
	return first
}

// isOrder is whether a row is of all definitions, each behind those that it uses.
func isOrder(row []int, uses [][]int) bool {
	for i, d := range row {
		for _, u := range uses[d] {
			if !slices.Contains(row[:i], u) {
				return false
			}
		}
	}
	return len(row) == len(uses)
}

func wantGraph(t *testing.T, rows, uses [][]int) {
	t.Helper()
	names := []string{"d", "b", "e", "a", "c"}[:len(uses)]
	s := graphFile(names, uses)
	if way := firstWayBack(rows, uses); way != nil {
		want := cycleOf()
		for _, d := range way {
			want.Names = append(want.Names, names[d])
		}
		wantFault(t, uses, s, want)
		return
	}
	// Of all orders the least is the one that takes the least definition each time.
	for _, row := range rows {
		if isOrder(row, uses) {
			wantNames(t, uses, s, api.Names{Modes: []string{"start"}, Active: [][]int{nil}, Order: row})
			return
		}
	}
	t.Errorf("%v: no order", uses)
}

// graphs tells each graph of n definitions.
func graphs(n int, yield func(uses [][]int)) {
	for bits := range 1 << (n * n) {
		uses := make([][]int, n)
		for i := range n * n {
			if bits>>i&1 == 1 {
				// The greater of them stand ahead in the text.
				uses[i/n] = append([]int{i % n}, uses[i/n]...)
			}
		}
		yield(uses)
	}
}

// P6.2, P6.3: CodeDefCycle applies just if a definition reaches itself; else Order
func TestAllGraphs(t *testing.T) {
	for n := range 5 {
		rows := rowsOf(n)
		graphs(n, func(uses [][]int) { wantGraph(t, rows, uses) })
	}
}

func TestMadeGraphs(t *testing.T) {
	c := chance(5)
	rows := rowsOf(5)
	for range 20000 {
		uses := make([][]int, 5)
		for range c.of(12) {
			i := c.of(5)
			uses[i] = append(uses[i], c.of(5))
		}
		wantGraph(t, rows, uses)
	}
}

// P6.3: each one's definition uses the next one's, the last one's the first one's; all are unlike.
func TestCyclesOfMany(t *testing.T) {
	c := chance(6)
	var cycles int
	for range 3000 {
		n := 6 + c.of(60)
		uses := make([][]int, n)
		for range n + c.of(n) {
			i := c.of(n)
			uses[i] = append(uses[i], c.of(n))
		}
		names := numbered(n)
		_, err := Resolve(graphFile(names, uses))
		f := fault.Tell(err)
		reaching := reachingThemselves(uses)
		if (f.Code == api.CodeDefCycle) != (len(reaching) > 0) {
			t.Errorf("%v: %+v", uses, f)
		}
		if len(reaching) == 0 {
			continue
		}
		cycles++
		var way []int
		for _, name := range f.Names {
			way = append(way, slices.Index(names, name))
		}
		if !isWayBack(way, uses) || way[0] != reaching[0] || len(slices.Compact(slices.Sorted(slices.Values(way)))) != len(way) {
			t.Errorf("%v: %v", uses, way)
		}
	}
	if cycles < 500 {
		t.Errorf("too few cycles: %d", cycles)
	}
}

// reachingThemselves widens what each one reaches, until it stays.
func reachingThemselves(uses [][]int) []int {
	n := len(uses)
	reach := make([][]bool, n)
	for i := range reach {
		reach[i] = make([]bool, n)
		for _, d := range uses[i] {
			reach[i][d] = true
		}
	}
	for k := range n {
		for i := range n {
			for j := range n {
				reach[i][j] = reach[i][j] || reach[i][k] && reach[k][j]
			}
		}
	}
	var l []int
	for i := range n {
		if reach[i][i] {
			l = append(l, i)
		}
	}
	return l
}

// As many definitions as there may be: a ring, one that all of the others lead into, all that use all.
func TestCyclesAtTheCap(t *testing.T) {
	const n = api.MaxDefs
	names := numbered(n)
	ring := make([][]int, n)
	for i := range ring {
		ring[i] = []int{(i + 1) % n}
	}
	wantFault(t, "ring", graphFile(names, ring), cycleOf(names...))
	for i := range ring {
		ring[i] = []int{(i + n - 1) % n}
	}
	back := append([]string{names[0]}, names[1:]...)
	slices.Reverse(back[1:])
	wantFault(t, "ring, other way", graphFile(names, ring), cycleOf(back...))
	ring[0] = nil
	var all []int
	for i := range n {
		all = append(all, i)
	}
	wantNames(t, "chain", graphFile(names, ring), api.Names{Modes: []string{"start"}, Active: [][]int{nil}, Order: all})
	ring[n-1] = append(ring[n-1], n-1)
	wantFault(t, "the last by itself", graphFile(names, ring), cycleOf(names[n-1]))
	for i := range ring {
		ring[i] = slices.Clone(all)
	}
	wantFault(t, "all", graphFile(names, ring), cycleOf(names[0]))
	ring[0] = all[1:]
	wantFault(t, "all but one", graphFile(names, ring), cycleOf(names[0], names[1]))
	for i := range ring {
		ring[i] = slices.Clone(all[i+1:])
	}
	slices.Reverse(all)
	wantNames(t, "each all behind it", graphFile(names, ring), api.Names{Modes: []string{"start"}, Active: [][]int{nil}, Order: all})
}

// P6.2: Order

func TestOrder(t *testing.T) {
	for text, want := range map[string][]int{
		"let a = {b} {c} {b}\nlet b = \"x\"\nlet c = {b}": {1, 2, 0},
		"":                                    nil,
		"let a = ()":                          {0},
		"let b = ()\nlet a = ()":              {0, 1},
		"let a = {b}\nlet b = ()\nlet c = ()": {1, 0, 2},
		"let a = {d}\nlet b = ()\nlet c = ()\nlet d = ()":   {1, 2, 3, 0},
		"let a = {b}\nlet b = {c}\nlet c = {d}\nlet d = ()": {3, 2, 1, 0},
		"let a = {d}\nlet b = {c}\nlet c = ()\nlet d = ()":  {2, 1, 3, 0},
		"let a = ({c}* | {b}){0}\nlet b = ()\nlet c = ()":   {1, 2, 0},
	} {
		n, err := Resolve(parsed(t, text))
		if err != nil || !slices.Equal(n.Order, want) {
			t.Errorf("%q: %v, %v; want %v", text, n.Order, err, want)
		}
	}
}
