package census_test

import (
	"math/big"
	"testing"

	"bolter/api"
	"bolter/match"
	"bolter/minimise"
	"bolter/samples"
	"bolter/witness"
)

// P14.4

// wantThereAndBack asks for the word at a place, and for the place of that word; it tells whether there is one.
func wantThereAndBack(t *testing.T, what any, d api.Dense, label int, k uint64) bool {
	t.Helper()
	x := nthOf(t, what, d, label, k)
	if x.there {
		wantRank(t, what, d, label, x.word, exactly(k))
	}
	return x.there
}

func TestRanksOfWordsByPlaces(t *testing.T) {
	c := chance{8}
	there := 0
	for range 300 {
		for _, d := range []api.Dense{c.dense(12, 2), denseBy(t, c.rules())} {
			for range 8 {
				if wantThereAndBack(t, shown(d), d, c.Of(4)-1, c.place()) {
					there++
				}
			}
		}
	}
	if there < 1000 {
		t.Errorf("%d places have a word", there)
	}
	great := c.Dense(600, 2)
	for range 20 {
		if !wantThereAndBack(t, "600 states", great, c.Of(3)-1, c.place()) {
			t.Error("600 states: no word")
		}
	}
}

func TestWordsByRanksOfWords(t *testing.T) {
	c := chance{9}
	there := 0
	for range 300 {
		for _, d := range []api.Dense{c.dense(12, 2), denseBy(t, c.rules())} {
			for range 8 {
				w := c.Text(1 + c.Of(64))
				label := labelBehind(d, w)
				if x := rankOf(t, shown(d), d, label, w); x.ok {
					wantNth(t, shown(d), d, label, x.n, word(w))
					there++
				}
			}
		}
	}
	if there < 1000 {
		t.Errorf("%d words have a place", there)
	}
}

func TestWordsRise(t *testing.T) {
	c := chance{10}
	for range 60 {
		d := c.dense(6, 1)
		for _, from := range []uint64{0, c.place(), 1<<64 - 20} {
			last := nothing
			for k := range uint64(20) {
				x := nthOf(t, shown(d), d, 0, from+k)
				if k > 0 && x.there && (!last.there || len(x.word) < len(last.word) || len(x.word) == len(last.word) && x.word <= last.word) {
					t.Errorf("%s: %q is word %d, behind %q", shown(d), x.word, from+k, last.word)
				}
				last = x
			}
		}
	}
}

// The counts of all labels make up all words; where they are too many, one count is, or their sum.
func TestCountsTogether(t *testing.T) {
	c := chance{11}
	l := []api.Dense{samples.States(1), samples.Two(), samples.States(70), denseOf(t, ``), denseOf(t, "rule \"if\" => t\nrule [a-z]+ => u\nrule [^]{3} => v")}
	for range 60 {
		l = append(l, c.dense(8, 3), denseBy(t, c.rules()))
	}
	for _, d := range l {
		labels := map[int]bool{}
		for _, label := range append(d.Label, -1) {
			labels[label] = true
		}
		for n := range 9 {
			sum, whole := new(big.Int), true
			for label := range labels {
				x := countOf(t, shown(d), d, label, n)
				sum.Add(sum, new(big.Int).SetUint64(x.n))
				whole = whole && x.ok
			}
			if want := new(big.Int).Lsh(big.NewInt(1), uint(8*n)); whole && sum.Cmp(want) != 0 || !whole && n < 8 {
				t.Errorf("%s: %d bytes: %v words of all labels, want %v", shown(d), n, sum, want)
			}
		}
	}
}

func TestCountsAndLeast(t *testing.T) {
	c := chance{12}
	fewer := 0
	for range 100 {
		d := c.dense(5, 2)
		blown, _ := c.Blown(d, len(d.Next)+c.Of(8))
		least, err := minimise.Least(blown)
		if err != nil {
			t.Fatal(err)
		}
		if len(least.Next) < len(blown.Next) {
			fewer++
		}
		for label := -1; label < 3; label++ {
			for _, n := range []int{0, 1, 2, 3, 7, 8, 9, 30, 64} {
				want := countOf(t, shown(least), least, label, n)
				wantCount(t, shown(d), d, label, n, want)
				wantCount(t, shown(blown), blown, label, n, want)
			}
			k := c.place()
			wantNth(t, shown(blown), blown, label, k, nthOf(t, shown(least), least, label, k))
		}
	}
	if fewer < 50 {
		t.Errorf("%d automata are not least", fewer)
	}
}

// The first word of a label is the one that witness tells, if it is no longer than may be counted.
func TestFirstWords(t *testing.T) {
	c := chance{13}
	l := []api.Dense{samples.States(64), samples.States(65), samples.States(66), samples.States(130)}
	for range 100 {
		l = append(l, c.dense(9, 4))
	}
	for _, d := range l {
		for label := -1; label < 66; label++ {
			w, there, err := witness.Word(d, label)
			if err != nil {
				t.Fatal(err)
			}
			want := nothing
			if there && len(w) <= 64 {
				want = word(string(w))
			}
			wantNth(t, shown(d), d, label, 0, want)
		}
	}
}

// A rule's words at places have that rule as their label by definition, too.
func TestLabelsOfWords(t *testing.T) {
	c := chance{14}
	for range 100 {
		l := c.rules()
		d, active := denseBy(t, l), upTo(0, len(l)-1)
		for label := -1; label < len(l); label++ {
			for _, k := range []uint64{0, 1, 2, uint64(c.Of(1000))} {
				x := nthOf(t, l, d, label, k)
				if got, err := match.Label(l, active, []byte(x.word)); x.there && (got != label || err != nil) {
					t.Errorf("%s: word %d of %d is %q, whose label is %d; %v", short(l), k, label, x.word, got, err)
				}
			}
		}
	}
}
