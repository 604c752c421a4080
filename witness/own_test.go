package witness_test

import (
	"reflect"
	"slices"
	"testing"

	"bolter/api"
	"bolter/samples"
	"bolter/subset"
	"bolter/witness"
)

// P13.7

func TestThoseThatMayNotBe(t *testing.T) {
	for what, d := range samples.NotDense() {
		wantArgs(t, what, d)
	}
	for s := range 3 {
		for _, b := range []int{0, 'a', 255} {
			for _, to := range []int{-1, 3} {
				d := samples.States(3)
				d.Next[s][b] = to
				wantArgs(t, shown(d), d)
			}
		}
		for _, label := range []int{-2, 200} {
			d := samples.States(3)
			d.Label[s] = label
			wantArgs(t, shown(d), d)
		}
	}
}

func TestEmptyListsAreNone(t *testing.T) {
	for _, d := range []api.Dense{{}, {Next: [][]int{}}, {Label: []int{}}, {Next: [][]int{}, Label: []int{}}, {Next: [][]int{{}}, Label: []int{0}}, {Next: [][]int{nil}, Label: []int{0}}} {
		wantArgs(t, d, d)
	}
	wantNever(t, "nil", nil, 1, 0)
	wantNever(t, "an empty list", []api.Dense{}, 1, 0)
}

// all is what all calls tell of an automaton and another one.
type all struct {
	words         []answer
	apart, differ answer
	never         []int
	ranged        string
}

func allOf(t *testing.T, what any, d, e api.Dense) all {
	t.Helper()
	x := all{
		apart: apartOf(t, what, d, 0, len(d.Next)-1), differ: differOf(t, what, d, e),
		never: neverOf(t, what, []api.Dense{d, e}, 12), ranged: wordsOf(d),
	}
	for label := -1; label <= 200; label++ {
		x.words = append(x.words, wordOf(t, what, d, label))
	}
	return x
}

// What lies behind a list's length is neither read nor written; what is handed in stays.
func TestWhatIsHandedInStays(t *testing.T) {
	other := denseOf(t, `rule [ab]+ => t`)
	for _, d := range []api.Dense{denseOf(t, someRules), other, samples.Two(), samples.States(600), samples.States(1)} {
		want := allOf(t, shown(d), d, other)
		whole, second := samples.DensePieces(d), samples.DensePieces(other)
		kept, keptSecond := samples.DenseLongs(whole), samples.DenseLongs(second)
		if got := allOf(t, shown(d), whole, second); !reflect.DeepEqual(got, want) {
			t.Errorf("%s: %s, want %s", short(shown(d)), short(got), short(want))
		}
		l := samples.PieceOf([]api.Dense{whole, second}, api.Dense{Label: []int{-9}})
		if got := neverOf(t, "a piece", l, 12); !slices.Equal(got, want.never) || len(l[:3][2].Label) != 1 || len(l[:3][2].Next) != 0 {
			t.Errorf("%s: never %v, want %v", short(shown(d)), got, want.never)
		}
		if !reflect.DeepEqual(samples.DenseLongs(whole), kept) || !reflect.DeepEqual(samples.DenseLongs(second), keptSecond) || !reflect.DeepEqual(samples.DenseLongs(l[0]), kept) {
			t.Errorf("%s: written over", short(shown(d)))
		}
	}
}

// Whoever writes into what is told changes nothing else.
func TestAnswersAreOnesOwn(t *testing.T) {
	d, e := denseOf(t, someRules), denseOf(t, `rule [a-z]+ => t`)
	want := allOf(t, "some", d, e)
	label4, _, _ := witness.Word(d, 4)
	again, _, _ := witness.Word(d, 4)
	differ, _, _ := witness.Differ(d, e)
	apart, _, _ := witness.Apart(d, 0, len(d.Next)-1)
	never, _ := witness.Never([]api.Dense{d, e}, 12)
	clear(never[:cap(never)])
	for _, w := range [][]byte{label4, differ, apart} {
		clear(w[:cap(w)])
	}
	if string(again) != "-0" {
		t.Errorf("written over: %q", again)
	}
	if got := allOf(t, "some", d, e); !reflect.DeepEqual(got, want) {
		t.Errorf("%s, want %s", short(got), short(want))
	}
	for _, row := range append(d.Next, d.Label) {
		clear(row)
	}
	if string(again) != "-0" {
		t.Errorf("what was handed in is kept: %q", again)
	}
}

// Words that are told in one go share nothing, be it behind their lengths.
func TestWordsShareNothing(t *testing.T) {
	for _, d := range []api.Dense{denseOf(t, someRules), samples.States(600)} {
		var l [][]byte
		for _, w := range witness.Words(d) {
			l = append(l, w[:cap(w)])
		}
		for i, w := range l {
			for j := range w {
				w[j] = byte(i)
			}
		}
		for i, w := range l {
			if slices.ContainsFunc(w, func(b byte) bool { return b != byte(i) }) {
				t.Fatalf("word %d is written over: %v", i, w)
			}
		}
	}
}

// Lists may stand in several places.
func TestSharedLists(t *testing.T) {
	row := slices.Repeat([]int{1, 0}, 128)
	d := api.Dense{Next: [][]int{row, row}, Label: row[:2]}
	wantAnswer(t, "shared", wordOf(t, "shared", d, 1), word(""))
	wantAnswer(t, "shared", wordOf(t, "shared", d, 0), word("\x00"))
	wantAnswer(t, "shared", apartOf(t, "shared", d, 0, 1), word(""))
	wantAnswer(t, "shared", differOf(t, "shared", d, d), nothing)
	wantNever(t, "shared", []api.Dense{d, d}, 3, 2)
	if !slices.Equal(row, slices.Repeat([]int{1, 0}, 128)) {
		t.Errorf("written over: %v", row)
	}
}

// Whatever is handed in, all ends, and the same is told each time.
func TestAllEnds(t *testing.T) {
	c := chance{16}
	may := 0
	for range 3000 {
		d := c.WildDense()
		if !subset.Check(d) {
			wantArgs(t, d, d)
			continue
		}
		may++
		e := c.Dense(1+c.Of(3), 2)
		first := allOf(t, shown(d), d, e)
		if again := allOf(t, shown(d), d, e); !reflect.DeepEqual(again, first) {
			t.Errorf("%s: %s, then %s", shown(d), short(first), short(again))
		}
	}
	if min(may, 3000-may) < 200 {
		t.Errorf("%d may be", may)
	}
}
