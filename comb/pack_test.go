package comb_test

import (
	"slices"
	"testing"

	"bolter/api"
	"bolter/minimise"
	"bolter/rows"
	"bolter/samples"
)

// P16.2

// The document's: of the second table it is one of the combs that may be.
func TestExamples(t *testing.T) {
	for _, x := range []struct {
		r    api.Rows
		want string
	}{
		{tableOf([]int{-1}), "0/-1; "},
		{tableOf([]int{-1, 1}, []int{-1, 1}), "0/-1 0/0; - 0:1"},
		{tableOfRules(t, `rule "a" => t`, []int{0}), "0/-1 0/-1; - 0:1"},
		{tableOfRules(t, ``, nil), "0/-1; "},
	} {
		if got := shown(wantRight(t, x.want, x.r)); got != x.want {
			t.Errorf("%s, want %s", got, x.want)
		}
	}
}

// Of one state there is one comb alone.
func TestOneState(t *testing.T) {
	for _, x := range []struct {
		row  []int
		want string
	}{
		{[]int{0}, "0/-1; 0:0"}, {[]int{0, -1}, "0/-1; 0:0"}, {[]int{-1, 0, -1, -1}, "0/-1; - 0:0"}, {[]int{-1, -1, 0, 0, -1}, "0/-1; - - 0:0 0:0"}, {[]int{0, -1, 0}, "0/-1; 0:0 - 0:0"}, {slices.Repeat([]int{-1}, 256), "0/-1; "},
	} {
		if got := shown(wantRight(t, x.row, tableOf(x.row))); got != x.want {
			t.Errorf("%v: %s, want %s", x.row, got, x.want)
		}
	}
	for class := range 256 {
		row := slices.Repeat([]int{-1}, 256)
		row[class] = 0
		if c := wantRight(t, class, tableOf(row)); c.Base[0] != 0 || len(c.Check) != class+1 || c.Check[class] != 0 {
			t.Errorf("class %d: %s", class, short(shown(c)))
		}
	}
}

func TestTables(t *testing.T) {
	for what, r := range map[string]api.Rows{
		"of two modes": samples.Table(), "nothing but -1": tableOf([]int{-1, -1}, []int{-1, -1}, []int{-1, -1}),
		"no two alike": tableOf([]int{0, 1, 2}, []int{1, 2, 0}, []int{2, 0, 1}), "all alike": tableOf([]int{2, 1}, []int{2, 1}, []int{2, 1}),
		"like the one below but for one":            tableOf([]int{0, 1, 2, 3}, []int{0, 1, 2, 0}, []int{0, 1, 1, 0}, []int{0, 2, 1, 0}),
		"like the last one":                         tableOf([]int{-1, -1, -1, -1}, []int{3, 2, 1, 0}, []int{3, 2, 1, -1}, []int{3, 2, 1, 0}),
		"-1 where the default is not":               tableOf([]int{0, 1, 2, 1, 0}, []int{0, 1, -1, 1, 0}, []int{-1, 1, -1, 1, 0}),
		"-1 alone is live":                          tableOf([]int{1, 1, 1, 1}, []int{1, 1, 1, -1}),
		"the fullest is the last one":               tableOf([]int{-1, 1, -1, -1}, []int{2, -1, -1, 2}, []int{0, 1, 2, 0}),
		"gaps that others fit into":                 tableOf([]int{1, -1, 1, -1, 1}, []int{-1, 2, -1, 2, -1}, []int{0, -1, -1, -1, 0}, []int{-1, -1, 3, -1, -1}),
		"live entries at the end":                   tableOf([]int{-1, -1, -1, 1}, []int{-1, -1, -1, 2}, []int{-1, -1, -1, 0}),
		"live entries at both ends":                 tableOf([]int{1, -1, -1, 1}, []int{2, -1, -1, 2}, []int{0, -1, -1, 0}),
		"one class":                                 tableOf([]int{1}, []int{2}, []int{-1}, []int{1}),
		"dead ones, and one that is led to by none": tableOf([]int{-1, -1}, []int{0, 0}, []int{-1, -1}),
	} {
		wantRight(t, what, r)
	}
}

// Which of the combs that may be is told: of defaults that are as good none, or the least; the fullest row lies lowest, of those that are as full the first.
func TestWhichComb(t *testing.T) {
	for _, x := range []struct {
		r    api.Rows
		want string
	}{
		{tableOf([]int{-1, -1}, []int{0, 0}), "0/-1 0/-1; 1:0 1:0"},
		{tableOf([]int{0, 0}, []int{1, 1}, []int{0, 1}), "0/-1 2/-1 3/0; 0:0 0:0 1:1 1:1 2:1"},
		{tableOf([]int{-1, 1, -1, -1}, []int{2, -1, -1, 2}, []int{0, 1, 2, 0}), "4/-1 1/-1 0/0; 2:0 1:2 2:2 2:0 1:2 0:1"},
	} {
		if got := shown(wantRight(t, x.want, x.r)); got != x.want {
			t.Errorf("%s, want %s", got, x.want)
		}
	}
}

// What a row has like another one it leaves to that: no state below would leave it fewer live entries, nor would none.
func TestDefaultsAreTheBest(t *testing.T) {
	c := chance{2}
	for range 300 {
		r := c.table(1+c.Of(20), 1+c.Of(12))
		x := wantRight(t, "by chance", r)
		for s, row := range r.Next {
			nowhere := slices.Repeat([]int{-1}, r.Count)
			rowsBelow := append([][]int{nowhere}, r.Next[:s]...)
			own := unlike(row, rowsBelow[x.Default[s]+1])
			for below, other := range rowsBelow {
				if n := unlike(row, other); n < own {
					t.Errorf("%s: state %d: %d live entries by %d, %d by %d", samples.RowsText(r), s, own, x.Default[s], n, below-1)
				}
			}
		}
	}
	same := slices.Repeat([][]int{upTo(0, 255)}, 600)
	if x := wantRight(t, "600 alike", tableOf(same...)); len(x.Check) != 256 || slices.Max(x.Base) > 0 {
		t.Errorf("600 alike: %d slots", len(x.Check))
	}
}

func unlike(a, b []int) int {
	n := 0
	for i := range a {
		if a[i] != b[i] {
			n++
		}
	}
	return n
}

func TestAllSmallTables(t *testing.T) {
	count := 0
	for _, size := range [][2]int{{1, 1}, {1, 5}, {2, 1}, {2, 3}, {3, 1}, {3, 2}, {4, 1}} {
		samples.AllRows(size[0], size[1], func(r api.Rows) {
			count++
			wantRight(t, size, r)
		})
	}
	if count != 2+32+9+729+64+4096+625 {
		t.Errorf("%d tables", count)
	}
}

func TestTablesByChance(t *testing.T) {
	c := chance{3}
	left, without, high := 0, 0, 0
	for range 2000 {
		x := wantRight(t, "by chance", c.table(1+c.Of(30), 1+c.Of(20)))
		for s, to := range x.Default {
			switch {
			case to >= 0:
				left++
			case x.Base[s] > 0:
				high++
			default:
				without++
			}
		}
	}
	if min(left, without, high) < 2000 {
		t.Errorf("%d have a default, %d have none, %d have none and a base above 0", left, without, high)
	}
	for range 60 {
		wantRight(t, "by chance, many", c.table(100+c.Of(100), 1+c.Of(256)))
	}
}

func TestTablesOfRules(t *testing.T) {
	for _, text := range []string{
		"rule \"if\" => x\nrule [a-z]+ => y\nrule [0-9]+ => z", "rule [a-z]*\"ab\"[a-z]{3} => x", "rule \"begin\"|\"end\"|\"else\"|\"elif\" => x\nrule \"=\"|\"==\"|\"<=\" => y",
		"rule () => x", "rule [] => x", "rule [^]* => x", "rule \"\\x00\\xff\"+ => x\nrule [^\"] => y",
	} {
		cores, err := samples.Cores(text)
		if err != nil {
			t.Fatal(err)
		}
		all := upTo(0, len(cores)-1)
		for _, active := range [][][]int{{all}, {all, nil, all}, {nil, {0}}} {
			wantRight(t, text, tableBy(t, cores, active...))
		}
	}
	c := chance{4}
	for range 300 {
		l := c.Rules(4, 3, "", "a", "b", "ab", "a\x00", "b\xff")
		modes := [][]int{upTo(0, len(l)-1), nil}
		wantRight(t, l, tableBy(t, l, modes...))
		d, err := samples.Dense(l, modes[0]...)
		if err != nil {
			t.Fatal(err)
		}
		least, err := minimise.Least(d)
		if err != nil {
			t.Fatal(err)
		}
		r, err := rows.Build([]api.Dense{least})
		if err != nil {
			t.Fatal(err)
		}
		wantRight(t, l, r)
	}
}

// filled is a table of so many states and classes, whose entries are told one by one.
func filled(states, classes int, entry func(s, class int) int) api.Rows {
	var next [][]int
	for s := range states {
		var row []int
		for class := range classes {
			row = append(row, entry(s, class))
		}
		next = append(next, row)
	}
	return tableOf(next...)
}

// The greatest tables have room.
func TestGreatTables(t *testing.T) {
	c := chance{5}
	for what, entry := range map[string]func(s, class int) int{
		"by chance":             func(s, class int) int { return c.Of(600) },
		"unlike in all classes": func(s, class int) int { return s },
		"one live entry each":   func(s, class int) int { return ends(class, s%256, s%256, s) },
		"both ends":             func(s, class int) int { return ends(class, 0, 255, s) },
		"the first, the last":   func(s, class int) int { return ends(class, s%256, 255, s) },
		"like the one below":    func(s, class int) int { return min(599, max(0, s-class)) },
		"few here and there":    func(s, class int) int { return max(-1, c.Of(600*9)-600*8) },
		"the first half":        func(s, class int) int { return ends(class/128, 0, 0, s) },
		"each other class":      func(s, class int) int { return ends(class%2, 0, 0, s) },
		"fewer and fewer":       func(s, class int) int { return ends(min(class, s), s, s, s%600) },
	} {
		x := wantRight(t, what, filled(600, 256, entry))
		if len(x.Check) > 600*256 {
			t.Errorf("%s: %d slots", what, len(x.Check))
		}
	}
	wantRight(t, "600 states, one class", filled(600, 1, func(s, class int) int { return s - 1 }))
	wantRight(t, "600 states, two classes", filled(600, 2, func(s, class int) int { return (s*7+class*5)%601 - 1 }))
	wantRight(t, "one state, 256 classes", filled(1, 256, func(s, class int) int { return class%2 - 1 }))
}

// ends is an entry for two classes, and -1 for all others.
func ends(class, a, b, entry int) int {
	if class == a || class == b {
		return entry
	}
	return -1
}

func TestTablesThatMayNotBe(t *testing.T) {
	for what, r := range samples.NotRows() {
		wantNoComb(t, what, r)
	}
	for _, r := range []api.Rows{{}, {Classes: make([]int, 256), Count: 1, Starts: []int{0}, Next: [][]int{}, Label: []int{}}, {Classes: make([]int, 256), Count: 1, Starts: []int{0}, Next: [][]int{nil}, Label: []int{0}}} {
		wantNoComb(t, r, r)
	}
	good := samples.Table()
	wantRight(t, "three states", good)
	good.Label[2] = 200
	wantNoComb(t, "a label alone", good)
}
