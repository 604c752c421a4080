package rows_test

import (
	"slices"
	"strconv"
	"testing"

	"bolter/api"
	"bolter/minimise"
	"bolter/samples"
)

// P15.1

func TestTablesOfRules(t *testing.T) {
	for _, c := range []struct {
		rules  string
		active [][]int
		want   string
	}{
		// the document's
		{`rule "a" => t`, [][]int{{0}}, "starts 0; classes 00>0 a>1 b>0; -1: -1 1; 0: -1 -1"},
		{``, [][]int{nil}, "starts 0; classes 00>0; -1: -1"},
		// dead starts, and those that are not
		{`rule "a" => t`, [][]int{nil}, "starts 0; classes 00>0; -1: -1"}, {`rule [] => t`, [][]int{{0}}, "starts 0; classes 00>0; -1: -1"}, {`rule "ab"[] => t`, [][]int{{0}}, "starts 0; classes 00>0; -1: -1"},
		{`rule () => t`, [][]int{{0}}, "starts 0; classes 00>0; 0: -1"}, {`rule [^]* => t`, [][]int{{0}}, "starts 0; classes 00>0; 0: 0"}, {`rule [^] => t`, [][]int{{0}}, "starts 0; classes 00>0; -1: 1; 0: -1"},
		// classes by the least bytes
		{`rule [a-c]+"d" => t`, [][]int{{0}}, "starts 0; classes 00>0 a>1 d>2 e>0; -1: -1 1 -1; -1: -1 1 2; 0: -1 -1 -1"},
		{`rule "b" => t`, [][]int{{0}}, "starts 0; classes 00>0 b>1 c>0; -1: -1 1; 0: -1 -1"},
		{`rule [\x00-a]"b" => t`, [][]int{{0}}, "starts 0; classes 00>0 b>1 c>2; -1: 1 -1 -1; -1: -1 2 -1; 0: -1 -1 -1"},
		{`rule "\xff\x00" => t`, [][]int{{0}}, "starts 0; classes 00>0 01>1 ff>2; -1: -1 -1 1; -1: 2 -1 -1; 0: -1 -1 -1"},
		{`rule [^\xff]* => t`, [][]int{{0}}, "starts 0; classes 00>0 ff>1; 0: 0 -1"},
		{`rule "ac"|"bc" => t`, [][]int{{0}}, "starts 0; classes 00>0 a>1 b>2 c>3 d>0; -1: -1 1 2 -1; -1: -1 -1 -1 3; -1: -1 -1 -1 3; 0: -1 -1 -1 -1"},
		// labels
		{"rule \"a\" => t\nrule [ab] => u\nrule [a-c] => v", [][]int{{0, 1, 2}}, "starts 0; classes 00>0 a>1 b>2 c>3 d>0; -1: -1 1 2 3; 0: -1 -1 -1 -1; 1: -1 -1 -1 -1; 2: -1 -1 -1 -1"},
		// several modes: states, and classes, of all
		{"rule \"a\" => t\nrule \"b\" => u", [][]int{{0}, {1}}, "starts 0 2; classes 00>0 a>1 b>2 c>0; -1: -1 1 -1; 0: -1 -1 -1; -1: -1 -1 3; 1: -1 -1 -1"},
		{"rule \"b\" => t\nrule \"a\" => u", [][]int{{0}, {1}}, "starts 0 2; classes 00>0 a>1 b>2 c>0; -1: -1 -1 1; 0: -1 -1 -1; -1: -1 3 -1; 1: -1 -1 -1"},
		{"rule [ab] => t\nrule [bc] => u", [][]int{{0}, {1}}, "starts 0 2; classes 00>0 a>1 b>2 c>3 d>0; -1: -1 1 1 -1; 0: -1 -1 -1 -1; -1: -1 -1 3 3; 1: -1 -1 -1 -1"},
		{`rule "a" => t`, [][]int{{0}, {0}}, "starts 0 2; classes 00>0 a>1 b>0; -1: -1 1; 0: -1 -1; -1: -1 3; 0: -1 -1"},
		{`rule "a" => t`, [][]int{nil, {0}, nil}, "starts 0 1 3; classes 00>0 a>1 b>0; -1: -1 -1; -1: -1 2; 0: -1 -1; -1: -1 -1"},
		{"rule [^] => t\nrule [] => u", [][]int{{1}, {0, 1}, {1}, {0}}, "starts 0 1 3 4; classes 00>0; -1: -1; -1: 2; 0: -1; -1: -1; -1: 5; 0: -1"},
		{``, make([][]int, 16), "starts 0 1 2 3 4 5 6 7 8 9 10 11 12 13 14 15; classes 00>0" + texted("; -1: -1", 16)},
	} {
		l := modesOf(t, c.rules, c.active...)
		wantShown(t, c.rules, l, c.want)
		wantFormal(t, c.rules, l)
	}
}

func texted(text string, n int) string {
	var all string
	for range n {
		all += text
	}
	return all
}

// Automata that may be, though no rules bring them forth.
func TestOtherAutomata(t *testing.T) {
	for what, c := range map[string]struct {
		l    []api.Dense
		want string
	}{
		"one state":                        {one(byTwo([]int{3}, [2]int{0, 0})), "starts 0; classes 00>0; 3: 0"},
		"one dead state":                   {one(byTwo([]int{-1}, [2]int{0, 0})), "starts 0; classes 00>0; -1: -1"},
		"all are dead":                     {one(byTwo([]int{-1, -1, -1}, [2]int{1, 2}, [2]int{2, 0}, [2]int{0, 1})), "starts 0; classes 00>0; -1: -1"},
		"the greatest label":               {one(byTwo([]int{199, -1}, [2]int{1, 0}, [2]int{0, 1})), "starts 0; classes 00>0 a>1 b>0; 199: 1 0; -1: 0 1"},
		"dead ones between":                {one(byTwo([]int{-1, -1, 0, -1, 1}, [2]int{1, 2}, [2]int{3, 1}, [2]int{3, 4}, [2]int{1, 3}, [2]int{4, 1})), "starts 0; classes 00>0 a>1 b>0; -1: -1 1; 0: -1 2; 1: 2 -1"},
		"the last is dead":                 {one(byTwo([]int{0, -1}, [2]int{1, 0}, [2]int{1, 1})), "starts 0; classes 00>0 a>1 b>0; 0: -1 0"},
		"alive by the last state alone":    {one(byTwo([]int{-1, -1, -1, 5}, [2]int{1, 1}, [2]int{2, 2}, [2]int{3, 3}, [2]int{3, 3})), "starts 0; classes 00>0; -1: 1; -1: 2; -1: 3; 5: 3"},
		"alive by the start alone":         {one(byTwo([]int{5, -1, -1, -1}, [2]int{0, 0}, [2]int{0, 1}, [2]int{1, 2}, [2]int{2, 3})), "starts 0; classes 00>0 a>1 b>0; 5: 0 0; -1: 0 1; -1: 1 2; -1: 2 3"},
		"alive by one byte":                {one(byTwo([]int{-1, 0}, [2]int{0, 1}, [2]int{1, 1})), "starts 0; classes 00>0 a>1 b>0; -1: 0 1; 0: 1 1"},
		"those that are not reached":       {one(byTwo([]int{0, 1, -1, -1}, [2]int{0, 0}, [2]int{2, 0}, [2]int{2, 2}, [2]int{3, 1})), "starts 0; classes 00>0 a>1 b>0; 0: 0 0; 1: -1 0; -1: 2 1"},
		"a dead start that others go to":   {one(byTwo([]int{-1, 7}, [2]int{0, 0}, [2]int{0, 1})), "starts 0; classes 00>0 a>1 b>0; -1: -1 -1; 7: -1 1"},
		"a dead start that leads to more":  {one(byTwo([]int{-1, -1, 7, -1}, [2]int{1, 0}, [2]int{0, 1}, [2]int{3, 0}, [2]int{2, 0})), "starts 0; classes 00>0 a>1 b>0; -1: -1 -1; 7: 2 -1; -1: 1 -1"},
		"a dead start behind another one":  {[]api.Dense{byTwo([]int{-1}, [2]int{}), byTwo([]int{-1, 7}, [2]int{0, 0}, [2]int{0, 1})}, "starts 0 1; classes 00>0 a>1 b>0; -1: -1 -1; -1: -1 -1; 7: -1 2"},
		"a label of those alone":           {one(byTwo([]int{-1, -1, 3}, [2]int{1, 0}, [2]int{1, 1}, [2]int{1, 1})), "starts 0; classes 00>0; -1: -1; 3: -1"},
		"unlike states that are all dead":  {one(byTwo([]int{0, -1, -1}, [2]int{1, 2}, [2]int{1, 1}, [2]int{2, 2})), "starts 0; classes 00>0; 0: -1"},
		"alike in the first, not the last": {[]api.Dense{ringOf(2, func(s int) int { return s }), byTwo([]int{0, 0}, [2]int{0, 1}, [2]int{0, 0})}, "starts 0 2; classes 00>0 a>1 b>0; 0: 1 1; 1: 0 0; 0: 2 3; 0: 2 2"},
		"alike in the last, not the first": {[]api.Dense{byTwo([]int{0, 0}, [2]int{0, 0}, [2]int{1, 0}), ringOf(2, func(s int) int { return s })}, "starts 0 2; classes 00>0 a>1 b>0; 0: 0 0; 0: 1 0; 0: 3 3; 1: 2 2"},
		"one automaton twice":              {slices.Repeat(one(byTwo([]int{0, -1, 1}, [2]int{1, 2}, [2]int{1, 1}, [2]int{0, 2})), 2), "starts 0 2; classes 00>0 a>1 b>0; 0: -1 1; 1: 0 1; 0: -1 3; 1: 2 3"},
	} {
		wantShown(t, what, c.l, c.want)
		wantFormal(t, what, c.l)
	}
}

// Each byte that leads otherwise has a class of its own.
func TestEachByteHasItsClass(t *testing.T) {
	for b := range 256 {
		d := byTwo([]int{0, 1}, [2]int{0, 0}, [2]int{0, 0})
		d.Next[1][b] = 1
		want := api.Rows{Classes: make([]int, 256), Count: 2, Starts: []int{0}, Next: [][]int{{0, 0}, {0, 1}}, Label: []int{0, 1}}
		want.Classes[b] = 1
		if b == 0 {
			want.Classes, want.Next[1] = append([]int{0}, slices.Repeat([]int{1}, 255)...), []int{1, 0}
		}
		wantTable(t, b, one(d), want)
	}
	all := ringOf(256, func(s int) int { return 0 })
	all.Next[7] = upTo(0, 255)
	if r := built(t, "each byte", one(all)); r.Count != 256 || !slices.Equal(r.Classes, upTo(0, 255)) || !slices.Equal(r.Next[7], upTo(0, 255)) {
		t.Errorf("each byte: %s", short(shown(r)))
	}
	slices.Reverse(all.Next[7])
	if r := built(t, "each byte, falling", one(all)); r.Count != 256 || !slices.Equal(r.Classes, upTo(0, 255)) || r.Next[7][0] != 255 || r.Next[7][255] != 0 {
		t.Errorf("each byte, falling: %s", short(shown(r)))
	}
}

// Each state's entries tell bytes apart, wherever it stands.
func TestEachStateTellsApart(t *testing.T) {
	for _, n := range []int{1, 2, 3, 7, 8, 9, 15, 16, 17, 63, 64, 65, 599, 600} {
		for s := range n {
			if n > 70 && s%97 > 1 && s < n-9 {
				continue
			}
			d := ringOf(n, func(s int) int { return 0 })
			wantClasses(t, n, one(d), slices.Repeat([]int{0}, 256))
			if n == 1 {
				continue
			}
			d.Next[s]['q'] = s
			want := make([]int, 256)
			want['q'] = 1
			wantClasses(t, strconv.Itoa(n)+" states, "+strconv.Itoa(s), one(d), want)
		}
	}
}

func wantClasses(t *testing.T, what any, l []api.Dense, want []int) {
	t.Helper()
	if r := built(t, what, l); !slices.Equal(r.Classes, want) || r.Count != slices.Max(want)+1 {
		t.Errorf("%s: %s, want classes %s", short(what), short(shown(r)), short(want))
	}
}

func TestHowManyAutomata(t *testing.T) {
	for what, d := range map[string]api.Dense{"one state": states(1), "two": samples.Two(), "37 states": states(37)} {
		for n := 1; n <= 16; n++ {
			wantFormal(t, what, slices.Repeat(one(d), n))
		}
		for _, n := range []int{0, 17, 18, 32, 1 << 16} {
			wantNoTable(t, what, slices.Repeat(one(d), n))
		}
	}
	wantNoTable(t, "nil", nil)
	wantNoTable(t, "an empty list", []api.Dense{})
	wantNoTable(t, "very many that may not be", make([]api.Dense, 1<<20))
}

// living and deadly are so many states, of which all, or none, lead to a label.
func living(n int) api.Dense { return ringOf(n, func(s int) int { return 0 }) }
func deadly(n int) api.Dense { return ringOf(n, func(s int) int { return -1 }) }

// Dead states, too, are among those that are too many.
func TestHowManyStates(t *testing.T) {
	for what, c := range map[string]struct {
		l      []api.Dense
		states int // of the table; 0: too many
	}{
		"600 of one":                 {one(living(600)), 600},
		"601 of one":                 {one(living(601)), 0},
		"600 of two":                 {[]api.Dense{living(1), living(599)}, 600},
		"601 of two, the last is 1":  {[]api.Dense{living(600), living(1)}, 0},
		"601 of two, the first is 1": {[]api.Dense{living(1), living(600)}, 0},
		"1200 of two":                {[]api.Dense{living(600), living(600)}, 0},
		"600 of 15":                  {slices.Repeat(one(living(40)), 15), 600},
		"601 of 16":                  {append(slices.Repeat(one(living(40)), 15), living(1)), 0},
		"600 of 16":                  {append(slices.Repeat(one(living(37)), 15), living(45)), 600},
		"9600 of 16":                 {slices.Repeat(one(living(600)), 16), 0},
		"600, all dead":              {one(deadly(600)), 1},
		"600 of three, all dead":     {slices.Repeat(one(deadly(200)), 3), 3},
		"600 of two, one dead":       {[]api.Dense{deadly(299), living(301)}, 302},
		"601 of two, all dead":       {[]api.Dense{deadly(300), deadly(301)}, 0},
		"601 of two, one dead":       {[]api.Dense{living(300), deadly(301)}, 0},
		"one dead state is too many": {[]api.Dense{living(600), deadly(1)}, 0},
	} {
		if c.states == 0 {
			wantNoTable(t, what, c.l)
			continue
		}
		if r := built(t, what, c.l); len(r.Next) != c.states {
			t.Errorf("%s: %d states, want %d", what, len(r.Next), c.states)
		}
		wantFormal(t, what, c.l)
	}
}

// One that may not be is refused wherever it stands.
func TestThoseThatMayNotBe(t *testing.T) {
	a, b := samples.Two(), states(3)
	for what, d := range samples.NotDense() {
		for _, l := range [][]api.Dense{{d}, {d, a}, {a, d}, {a, d, b}, {d, d}, append(slices.Repeat(one(a), 15), d), append(slices.Repeat(one(a), 16), d)} {
			wantNoTable(t, what, l)
		}
	}
	for s := range 3 {
		for _, x := range []int{0, 'a', 255} {
			for _, to := range []int{-1, 3} {
				d := states(3)
				d.Next[s][x] = to
				wantNoTable(t, samples.DenseText(d), []api.Dense{a, d})
			}
		}
		for _, label := range []int{-2, 200} {
			d := states(3)
			d.Label[s] = label
			wantNoTable(t, samples.DenseText(d), []api.Dense{d, a})
		}
	}
}

func TestSmallAutomata(t *testing.T) {
	var small []api.Dense
	for states := 1; states <= 2; states++ {
		samples.AllDense(states, 3, func(d api.Dense) {
			small = append(small, d)
			wantFormal(t, samples.DenseText(d), one(d))
		})
	}
	count := 0
	samples.AllDense(3, 2, func(d api.Dense) {
		if count++; count%5 == 0 {
			wantFormal(t, samples.DenseText(d), []api.Dense{d, small[count%len(small)]})
		}
	})
	for i, d := range small {
		for _, j := range []int{0, 1, 2, i, (i*7 + 5) % len(small)} {
			wantFormal(t, i, []api.Dense{d, small[j]})
		}
	}
}

func TestTablesByChance(t *testing.T) {
	c := chance{1}
	starts, between, unread := 0, 0, 0
	for range 1500 {
		l := c.automata(5, 9)
		wantFormal(t, texts(l), l)
		for _, d := range l {
			is := dead(d)
			if is[0] {
				starts++
			} else if slices.Contains(is, true) {
				between++
			}
			if len(samples.FoundFrom0(d)) < len(is) {
				unread++
			}
		}
	}
	if min(starts, between, unread) < 300 {
		t.Errorf("%d starts are dead, %d others are, of %d some states are not reached", starts, between, unread)
	}
}

func TestTablesOfRulesByChance(t *testing.T) {
	c := chance{2}
	for range 300 {
		l := c.rules()
		modes := modesBy(t, l, c.modes(len(l))...)
		wantFormal(t, short(l), modes)
		for i, d := range modes {
			least, err := minimise.Least(d)
			if err != nil {
				t.Fatal(err)
			}
			modes[i] = least
		}
		wantFormal(t, short(l), modes)
	}
}

func TestGreatTables(t *testing.T) {
	c := chance{3}
	wide := api.Dense{}
	for s := range 600 {
		var row []int
		for range 256 {
			row = append(row, c.Of(600))
		}
		wide.Next, wide.Label = append(wide.Next, row), append(wide.Label, s%201-1)
	}
	if r := built(t, "600 states, 256 classes", one(wide)); r.Count != 256 || len(r.Next) != 600 {
		t.Errorf("%d states, %d classes", len(r.Next), r.Count)
	}
	wantFormal(t, "600 states, 256 classes", one(wide))
	for _, s := range upTo(1, 599) {
		wide.Next[s] = slices.Repeat([]int{0}, 256)
	}
	wantFormal(t, "one row is unlike", one(wide))
	wantFormal(t, "600 states, few of them dead", one(c.Dense(600, 1)))
	wantFormal(t, "a row of 600, the last with a label", one(ringOf(600, func(s int) int { return s/599 - 1 })))
	wantFormal(t, "600 states", one(states(600)))
	wantFormal(t, "512 states, and the dead one", modesOf(t, `rule [ab]* "a" [ab]{8} => t`, []int{0}))
	l := c.automata(16, 37)
	for len(l) < 16 {
		l = append(l, c.dense(37))
	}
	wantFormal(t, "16 automata", l)
}
