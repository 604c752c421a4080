package comb_test

import (
	"reflect"
	"slices"
	"testing"

	"bolter/api"
	"bolter/comb"
	"bolter/rows"
	"bolter/samples"
)

// P16.5

// some is tables that share nothing with one another, and one that may not be.
func some() []api.Rows {
	c := chance{9}
	bad := samples.Table()
	bad.Next[2][2] = 3
	l := []api.Rows{samples.Table(), bad, tableOf([]int{-1}), tableOf([]int{-1, 1}, []int{-1, 1}), {}}
	for range 40 {
		l = append(l, c.table(1+c.Of(20), 1+c.Of(12)))
	}
	return l
}

// What lies behind a list's length is neither read nor written; what is handed in stays.
func TestWhatIsPackedStays(t *testing.T) {
	for _, r := range some() {
		want, fail := comb.Pack(r)
		whole := samples.RowsPieces(r)
		kept := samples.RowsLongs(whole)
		if got, err := comb.Pack(whole); !reflect.DeepEqual(got, want) || (err == nil) != (fail == nil) {
			t.Errorf("%s: %s, %v; want %s", short(samples.RowsText(r)), shown(got), err, shown(want))
		}
		if !reflect.DeepEqual(samples.RowsLongs(whole), kept) {
			t.Errorf("%s: written over", short(samples.RowsText(r)))
		}
	}
}

func TestWhatIsLookedAtStays(t *testing.T) {
	c := chance{10}
	l := []api.Comb{samples.Comb(), chainOf(600), freeSlots(300, 299), freeSlots(300, 300), {}}
	for range 200 {
		l = append(l, c.wild())
	}
	for _, x := range l {
		whole := samples.CombPieces(x)
		kept := samples.CombLongs(whole)
		for _, classes := range []int{1, 3, 256} {
			if got := comb.Check(whole, classes); got != comb.Check(x, classes) {
				t.Errorf("%+v may be, with %d classes: %v", short(x), classes, got)
			}
		}
		for _, class := range []int{0, 2, 255} {
			entry, probes, _ := comb.Look(x, 0, class)
			if got, n, _ := comb.Look(whole, 0, class); got != entry || n != probes {
				t.Errorf("%+v: %d, %d probes; want %d, %d", short(x), got, n, entry, probes)
			}
			wantNoLook(t, "behind the last", whole, len(whole.Base), class)
		}
		if !reflect.DeepEqual(samples.CombLongs(whole), kept) {
			t.Errorf("%+v: written over", short(x))
		}
	}
}

// No two lists of an answer share memory, be it behind their lengths; none is what was handed in.
func TestListsShareNothing(t *testing.T) {
	for _, r := range some() {
		c, _ := comb.Pack(r)
		lists := append(samples.CombLists(c), samples.RowsLists(r)...)
		for i, list := range lists {
			for j := range list {
				list[j] = i
			}
		}
		for i, list := range lists {
			if slices.ContainsFunc(list, func(n int) bool { return n != i }) {
				t.Fatalf("list %d is written over: %s", i, short(list))
			}
		}
	}
}

// Whoever writes into what is told, or was handed in, changes nothing else.
func TestAnswersAreOnesOwn(t *testing.T) {
	r := samples.Table()
	first, second := packed(t, "a table", r), packed(t, "a table", r)
	want := shown(second)
	for _, list := range samples.CombLists(first) {
		for i := range list {
			list[i] = -9
		}
	}
	if shown(second) != want || !reflect.DeepEqual(r, samples.Table()) {
		t.Errorf("written over: %s, %s", shown(second), samples.RowsText(r))
	}
	for _, list := range samples.RowsLists(r) {
		clear(list)
	}
	clear(r.Next)
	if shown(second) != want {
		t.Errorf("what was handed in is kept: %s", shown(second))
	}
	if got := shown(wantRight(t, "a table", samples.Table())); got != want {
		t.Errorf("%s, want %s", got, want)
	}
}

// Lists may stand in several places.
func TestSharedLists(t *testing.T) {
	row := slices.Repeat([]int{0, 1}, 128)
	r := api.Rows{Classes: row, Count: 2, Starts: row[:2], Next: [][]int{row[:2], row[2:4]}, Label: row[:2]}
	if got := shown(wantRight(t, "shared", r)); got != "0/-1 0/0; 0:0 0:1" || !slices.Equal(row, slices.Repeat([]int{0, 1}, 128)) {
		t.Errorf("%s; %v", got, row)
	}
	two := []int{0, -1, 0, 0}
	c := api.Comb{Base: two[2:], Default: two[1:3], Next: two[:1], Check: two[:1]}
	wantLook(t, "shared", c, 1, 0, 0, 2)
	wantLook(t, "shared", c, 1, 1, -1, 2)
	if !slices.Equal(two, []int{0, -1, 0, 0}) {
		t.Errorf("written over: %v", two)
	}
}

// Whatever is handed in, all ends, and the same is told each time.
func TestAllEnds(t *testing.T) {
	c := chance{11}
	may := 0
	for range 20000 {
		r := c.table(1+c.Of(4), 1+c.Of(4))
		if c.Of(2) == 0 {
			c.spoilRows(&r)
		}
		if !rows.Check(r) {
			wantNoComb(t, r, r)
			continue
		}
		may++
		if first := wantRight(t, "by chance", r); !reflect.DeepEqual(packed(t, r, r), first) {
			t.Errorf("%s: not the same", samples.RowsText(r))
		}
	}
	if min(may, 20000-may) < 2000 {
		t.Errorf("%d may be", may)
	}
}

// spoilRows writes any number somewhere, or lengthens a list.
func (c *chance) spoilRows(r *api.Rows) {
	n := c.Of(9) - 3
	switch c.Of(5) {
	case 0:
		r.Count = n
	case 1:
		r.Next = append(r.Next, r.Next[0])
	case 2:
		r.Label = append(r.Label, n)
	default:
		list := samples.RowsLists(*r)[c.Of(3+len(r.Next))]
		list[c.Of(len(list))] = n
	}
}
