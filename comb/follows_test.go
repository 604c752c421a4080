package comb_test

import (
	"testing"

	"bolter/api"
	"bolter/comb"
	"bolter/match"
	"bolter/rows"
	"bolter/samples"
)

// P16.4

// wantEntries asks that looks tell the table's entries, and make no more probes than there are states up to the one that is looked at.
func wantEntries(t *testing.T, what any, r api.Rows) {
	t.Helper()
	c := packed(t, what, r)
	for s, row := range r.Next {
		if c.Default[s] < -1 || c.Default[s] >= s {
			t.Errorf("%s: state %d has the default %d", short(what), s, c.Default[s])
		}
		for class, want := range row {
			entry, probes, err := comb.Look(c, s, class)
			if _, n := entryOf(c, s, class); entry != want || probes != n || probes < 1 || probes > s+1 || err != nil {
				t.Errorf("%s: %d by %d: %d, %d probes, %v; want %d, %d", short(what), s, class, entry, probes, err, want, n)
			}
		}
	}
}

func TestEntriesOfTables(t *testing.T) {
	wantEntries(t, "of two modes", samples.Table())
	for _, size := range [][2]int{{1, 3}, {2, 2}, {3, 2}} {
		samples.AllRows(size[0], size[1], func(r api.Rows) { wantEntries(t, size, r) })
	}
	c := chance{7}
	for range 300 {
		wantEntries(t, "by chance", c.table(1+c.Of(30), 1+c.Of(20)))
	}
	for _, text := range []string{"rule \"if\" => x\nrule [a-z]+ => y\nrule [0-9]+ => z", "rule [a-z]*\"ab\"[a-z]{3} => x", "rule [^]* => x\nrule [a] => y"} {
		wantEntries(t, text, tableOfRules(t, text, []int{0, 1}[:min(2, len(text)/32)], nil, []int{0}))
	}
}

// As many probes as there are states are made, where each row is like the one below but for one class.
func TestLongChains(t *testing.T) {
	r := filled(200, 200, func(s, class int) int {
		if class <= s {
			return class
		}
		return -1
	})
	wantRight(t, "a stair", r)
	wantEntries(t, "a stair", r)
	c := packed(t, "a stair", r)
	wantLook(t, "a stair", c, 199, 199, 199, 1)
	wantLook(t, "a stair", c, 199, 0, 0, 200)
}

// behind goes by looks over a text, from a start on: -1, where it has ended.
func behind(t *testing.T, r api.Rows, c api.Comb, start int, text string) int {
	t.Helper()
	for i := 0; i < len(text) && start >= 0; i++ {
		to, _, err := comb.Look(c, start, r.Classes[text[i]])
		want, bad := rows.Entry(r, start, text[i])
		if to != want || err != nil || bad != nil {
			t.Fatalf("%d by %d: %d, %v; want %d, %v", start, text[i], to, err, want, bad)
		}
		start = to
	}
	return start
}

// Behind each text the state that looks come to has the label that the rules say.
func TestLabelsByLooks(t *testing.T) {
	c := chance{8}
	ends, labels := 0, 0
	for range 200 {
		l := c.Rules(4, 3, "", "a", "b", "ab", "a\x00", "b\xff")
		var every, even []int
		for rule := range l {
			every = append(every, rule)
			if rule%2 == 0 {
				even = append(even, rule)
			}
		}
		r := tableBy(t, l, every, even)
		x := packed(t, l, r)
		for mode, active := range [][]int{every, even} {
			for range 6 {
				text := c.Text(6)
				want, err := match.Label(l, active, []byte(text))
				switch state := behind(t, r, x, r.Starts[mode], text); {
				case err != nil || state == -1 && want != -1 || state >= 0 && r.Label[state] != want:
					t.Errorf("%s, %v: behind %q: %d, want label %d; %v", short(l), active, text, state, want, err)
				case state == -1:
					ends++
				case want >= 0:
					labels++
				}
			}
		}
	}
	if min(ends, labels) < 200 {
		t.Errorf("%d texts end, %d have a label", ends, labels)
	}
}
