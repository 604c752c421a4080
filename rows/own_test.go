package rows_test

import (
	"reflect"
	"slices"
	"testing"

	"bolter/api"
	"bolter/rows"
	"bolter/samples"
	"bolter/subset"
)

// P15.5

const (
	someRules = "rule [a-z]+ => t\nrule \"if\" => u\nrule () => v\nrule \"0\"+ => w"
	someShown = "starts 0 1 3; classes 00>0 30>1 31>0 a>2 7b>0; -1: -1 -1 -1; 0: -1 -1 2; 0: -1 -1 2; 2: -1 4 -1; 3: -1 4 -1"
)

// some is three automata, of which the first is dead.
func some() []api.Dense {
	a := byTwo([]int{-1}, [2]int{})
	b := api.Dense{Next: [][]int{make([]int, 256), slices.Repeat([]int{0}, 256), make([]int, 256)}, Label: []int{0, 0, -1}}
	c := api.Dense{Next: [][]int{make([]int, 256), make([]int, 256), make([]int, 256)}, Label: []int{2, 3, -1}}
	for x := range 256 {
		b.Next[0][x], b.Next[1][x], b.Next[2][x] = 2, 2, 2
		c.Next[0][x], c.Next[1][x], c.Next[2][x] = 2, 2, 2
		if 'a' <= x && x <= 'z' {
			b.Next[0][x], b.Next[1][x] = 1, 1
		}
	}
	c.Next[0]['0'], c.Next[1]['0'] = 1, 1
	return []api.Dense{a, b, c}
}

// pieces makes each list of automata, and theirs, a piece of a longer one.
func pieces(l []api.Dense) []api.Dense {
	l = samples.PieceOf(l, samples.Two())
	for i, d := range l {
		l[i] = samples.DensePieces(d)
	}
	return l
}

// longs tells automata with what lies behind their lists.
func longs(l []api.Dense) []api.Dense {
	l = slices.Clone(l[:cap(l)])
	for i, d := range l {
		l[i] = samples.DenseLongs(d)
	}
	return l
}

// What lies behind a list's length is neither read nor written; what is handed in stays.
func TestWhatIsHandedInStays(t *testing.T) {
	wantShown(t, "some", some(), someShown)
	bad := some()
	bad[2].Next[2][255] = 3
	for _, l := range [][]api.Dense{some(), bad, one(samples.Two()), one(states(600)), modesOf(t, someRules, []int{0, 1}, nil, []int{1, 2, 3}), slices.Repeat(one(states(2)), 16), {{}}, {}} {
		want, fail := rows.Build(l)
		whole := pieces(l)
		kept := longs(whole)
		if got, err := rows.Build(whole); !reflect.DeepEqual(got, want) || (err == nil) != (fail == nil) {
			t.Errorf("%s: %s, %v", short(texts(l)), short(shown(got)), err)
		}
		if !reflect.DeepEqual(longs(whole), kept) {
			t.Errorf("%s: written over", short(texts(l)))
		}
	}
}

func TestWhatIsCheckedStays(t *testing.T) {
	bad := samples.Table()
	bad.Next[2][2] = 3
	for _, r := range []api.Rows{samples.Table(), bad, least(), great(), built(t, "some", some()), {}} {
		want := rows.Check(r)
		whole := samples.RowsPieces(r)
		kept := samples.RowsLongs(whole)
		if got := rows.Check(whole); got != want {
			t.Errorf("%s may be: %v", short(shown(r)), got)
		}
		for _, b := range []byte{0, 'a', 255} {
			entry, _ := rows.Entry(r, 0, b)
			if got, err := rows.Entry(whole, 0, b); got != entry || (err == nil) != want {
				t.Errorf("%s: by %d: %d, %v; want %d", short(shown(r)), b, got, err, entry)
			}
			wantNoEntry(t, "behind the last", whole, len(whole.Next), b)
		}
		if !reflect.DeepEqual(samples.RowsLongs(whole), kept) {
			t.Errorf("%s: written over", short(shown(r)))
		}
	}
}

// No two lists of an answer share memory, be it behind their lengths; none is what was handed in.
func TestListsShareNothing(t *testing.T) {
	shared := byTwo([]int{0, 1}, [2]int{1, 0}, [2]int{0, 1})
	for _, l := range [][]api.Dense{some(), one(samples.Two()), one(states(600)), one(states(1)), slices.Repeat(one(shared), 16), modesOf(t, someRules, []int{0, 1}, nil, []int{1, 2, 3})} {
		r := built(t, texts(l), l)
		lists := append(samples.RowsLists(r), samples.DenseLists(slices.Clip(l))...)
		if len(l) == 16 {
			lists = append(samples.RowsLists(r), samples.DenseLists(one(shared))...)
		}
		for i, list := range lists {
			for j := range list {
				list[j] = i
			}
		}
		for i, list := range lists {
			if slices.ContainsFunc(list, func(n int) bool { return n != i }) {
				t.Fatalf("list %d is written over: %s", i, short(list))
			}
		}
	}
}

// Whoever writes into what is told, or was handed in, changes nothing else.
func TestAnswersAreOnesOwn(t *testing.T) {
	l := some()
	first, second := built(t, "some", l), built(t, "some", l)
	for _, list := range samples.RowsLists(first) {
		for i := range list {
			list[i] = -9
		}
	}
	clear(first.Next[:cap(first.Next)])
	if shown(second) != someShown || !reflect.DeepEqual(l, some()) {
		t.Errorf("written over: %s, %s", shown(second), texts(l))
	}
	wantShown(t, "written over", l, someShown)
	for _, d := range l {
		for _, list := range append(d.Next, d.Label) {
			clear(list)
		}
		clear(d.Next)
	}
	clear(l)
	if shown(second) != someShown {
		t.Errorf("what was handed in is kept: %s", shown(second))
	}
	wantShown(t, "some", some(), someShown)
}

// Lists may stand in several places.
func TestSharedLists(t *testing.T) {
	row := slices.Repeat([]int{1, 0}, 128)
	d := api.Dense{Next: [][]int{row, row}, Label: row[:2]}
	wantFormal(t, "shared", []api.Dense{d, d, {Next: d.Next, Label: []int{-1, 5}}})
	r := api.Rows{Classes: row, Count: 2, Starts: row[:2], Next: [][]int{row[:2], row[:2]}, Label: row[:2]}
	if rows.Check(r) {
		t.Error("class 1 ahead of class 0 may be")
	}
	row = slices.Repeat([]int{0, 1}, 128)
	r = api.Rows{Classes: row, Count: 2, Starts: row[:2], Next: [][]int{row[:2], row[:2]}, Label: row[:2]}
	wantEntry(t, "shared", r, 1, 'a', 1)
	wantEntry(t, "shared", r, 1, 'b', 0)
	if !slices.Equal(row, slices.Repeat([]int{0, 1}, 128)) {
		t.Errorf("written over: %v", row)
	}
}

func TestEmptyListsAreNone(t *testing.T) {
	for _, l := range [][]api.Dense{nil, {}, {{}}, {{Next: [][]int{}, Label: []int{}}}, {{Next: [][]int{{}}, Label: []int{0}}}, {{Next: [][]int{nil}, Label: []int{0}}}} {
		wantNoTable(t, l, l)
	}
	for _, r := range []api.Rows{{}, {Classes: []int{}, Starts: []int{}, Next: [][]int{}, Label: []int{}}, {Classes: make([]int, 256), Starts: []int{0}, Next: [][]int{{}}, Label: []int{0}}, {Classes: make([]int, 256), Count: 1, Starts: []int{0}, Next: [][]int{nil}, Label: []int{0}}} {
		if rows.Check(r) {
			t.Errorf("%+v may be", r)
		}
		wantNoEntry(t, r, r, 0, 0)
	}
}

// Whatever is handed in, all ends, and the same is told each time.
func TestAllEnds(t *testing.T) {
	c := chance{10}
	may := 0
	for range 8000 {
		var l []api.Dense
		for range c.Of(3) {
			l = append(l, c.WildDense())
		}
		if len(l) == 0 || slices.ContainsFunc(l, func(d api.Dense) bool { return !subset.Check(d) }) {
			wantNoTable(t, l, l)
			continue
		}
		may++
		wantFormal(t, texts(l), l)
		wantTable(t, texts(l), l, built(t, texts(l), l))
	}
	if min(may, 8000-may) < 200 {
		t.Errorf("%d may be", may)
	}
}
