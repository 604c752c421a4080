package rows_test

import (
	"fmt"
	"testing"

	"bolter/api"
	"bolter/match"
	"bolter/minimise"
	"bolter/rows"
	"bolter/samples"
)

// P15.4

// wantBehind asks, behind a text, for the text's label, or for -1 where no text that begins with it has one; the empty text comes to a state always.
func wantBehind(t *testing.T, what any, r api.Rows, mode int, d api.Dense, isDead []bool, text string) {
	t.Helper()
	state := stateBehind(t, d, text)
	entry := behind(r, r.Starts[mode], text)
	if (entry == -1) != (isDead[state] && text != "") || entry >= 0 && r.Label[entry] != d.Label[state] {
		t.Errorf("%s: mode %d, behind %q: %d; state %d of %s", short(what), mode, text, entry, state, short(samples.DenseText(d)))
	}
}

// wantUnlike asks that no two classes have one column.
func wantUnlike(t *testing.T, what any, r api.Rows) {
	t.Helper()
	classes := map[string]int{}
	for class := range r.Count {
		var column []int
		for _, row := range r.Next {
			column = append(column, row[class])
		}
		text := fmt.Sprint(column)
		if first, ok := classes[text]; ok {
			t.Errorf("%s: classes %d and %d have one column: %s", short(what), first, class, short(text))
		}
		classes[text] = class
	}
}

// wantWhatFollows asks for what P15.4 says, behind all texts of a few bytes and behind some others.
func wantWhatFollows(t *testing.T, what any, l []api.Dense, others ...string) api.Rows {
	t.Helper()
	r := built(t, what, l)
	for mode, d := range l {
		isDead := dead(d)
		for _, text := range append(samples.InOrder("\x00ab\xff", 3), others...) {
			wantBehind(t, what, r, mode, d, isDead, text)
		}
	}
	wantUnlike(t, what, r)
	return r
}

func TestWhatFollowsOfSmallAutomata(t *testing.T) {
	for states := 1; states <= 2; states++ {
		samples.AllDense(states, 2, func(d api.Dense) {
			wantWhatFollows(t, samples.DenseText(d), []api.Dense{d, samples.Two(), d})
		})
	}
}

func TestWhatFollowsByChance(t *testing.T) {
	c := chance{6}
	for range 150 {
		l := c.automata(4, 9)
		wantWhatFollows(t, texts(l), l, c.Text(20), c.Text(20), c.Text(20), c.Text(20))
	}
	for _, d := range []api.Dense{states(600), c.Dense(600, 1), ringOf(600, func(s int) int { return s/599 - 1 }), deadly(600)} {
		wantWhatFollows(t, "600 states", one(d), c.Text(500), c.Text(1000), string(make([]byte, 1000)))
	}
}

// By rules' words: a label by definition, and where it is none, whether some rule may go on.
func TestWhatFollowsOfRules(t *testing.T) {
	c := chance{7}
	ends, labels := 0, 0
	for range 200 {
		l := c.rules()
		active := c.modes(len(l))
		modes := modesBy(t, l, active...)
		r := wantWhatFollows(t, short(l), modes)
		for mode, rules := range active {
			for range 6 {
				text := c.Text(6)
				want, err := match.Label(l, rules, []byte(text))
				switch entry := behind(r, r.Starts[mode], text); {
				case err != nil || entry == -1 && want != -1 || entry >= 0 && r.Label[entry] != want:
					t.Errorf("%s, %v: behind %q: %d, want label %d; %v", short(l), rules, text, entry, want, err)
				case entry == -1:
					ends++
				case want >= 0:
					labels++
				}
			}
		}
	}
	if min(ends, labels) < 200 {
		t.Errorf("%d texts end, %d have a label", ends, labels)
	}
}

// Entries by bytes are those that the table has: a walk by calls comes where the walk by lists does.
func TestWalksByCalls(t *testing.T) {
	c := chance{8}
	for range 100 {
		l := c.automata(3, 6)
		r := built(t, texts(l), l)
		text := c.Text(8)
		for mode, start := range r.Starts {
			state := start
			for i := 0; i < len(text) && state != -1; i++ {
				to, err := rows.Entry(r, state, text[i])
				if err != nil {
					t.Fatal(err)
				}
				state = to
			}
			if want := behind(r, start, text); state != want {
				t.Errorf("%v: mode %d, behind %q: %d, want %d", texts(l), mode, text, state, want)
			}
			wantBehind(t, texts(l), r, mode, l[mode], dead(l[mode]), text)
		}
	}
}

// Of the least automata: one dead state each is left out, and the classes are those of the automata before they were the least ones, or fewer.
func TestTablesOfLeastAutomata(t *testing.T) {
	c := chance{9}
	for range 200 {
		l := c.rules()
		modes := modesBy(t, l, c.modes(len(l))...)
		before := built(t, short(l), modes).Count
		kept := 0
		for i, d := range modes {
			least, err := minimise.Least(d)
			if err != nil {
				t.Fatal(err)
			}
			modes[i] = least
			for state, is := range dead(least) {
				if !is || state == 0 {
					kept++
				}
			}
		}
		r := wantWhatFollows(t, short(l), modes)
		if len(r.Next) != kept || r.Count > before {
			t.Errorf("%s: %d states, want %d; %d classes, before %d", short(l), len(r.Next), kept, r.Count, before)
		}
	}
}
