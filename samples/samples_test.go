package samples_test

import (
	"reflect"
	"slices"
	"testing"

	"bolter/api"
	"bolter/comb"
	"bolter/expand"
	"bolter/rows"
	"bolter/samples"
	"bolter/subset"
)

// Tests lean on it that these are cores, and those are not.
func TestCoresAndOthers(t *testing.T) {
	for _, e := range samples.Small(samples.Empty(), samples.Set(""), samples.Set("a")) {
		if !expand.Check(e) {
			t.Errorf("%+v: no core", e)
		}
	}
	c := samples.Chance(1)
	for range 1000 {
		if e := c.Core(4, "", "a"); !expand.Check(e) {
			t.Errorf("%+v: no core", e)
		}
	}
	for what, e := range samples.NotCores() {
		if expand.Check(e) {
			t.Errorf("%s: a core", what)
		}
	}
}

func TestPieces(t *testing.T) {
	e := samples.Pieces(samples.Cat(samples.Set("a"), samples.Set("b")))
	if whole := samples.Longs(e); len(e.Args) != 2 || len(whole.Args) < 3 || whole.Args[2].Op != -9 {
		t.Errorf("%+v, %+v", e, whole)
	}
	l := samples.Changed([]api.Core{samples.Rule(samples.Set("a"))}, samples.Star)
	if l[0].Head.Op != api.OpRepeat || l[0].Trail.Op != api.OpRepeat {
		t.Errorf("%+v", l)
	}
}

func TestCoresOfFiles(t *testing.T) {
	l, err := samples.Cores("rule \"a\" / \"b\" => t\nrule () => u")
	if err != nil || len(l) != 2 || !l[0].HasTrail || l[1].Head.Op != api.OpEmpty {
		t.Errorf("%+v, %v", l, err)
	}
	for _, text := range []string{"rule", "rule {a} => t"} {
		if l, err := samples.Cores(text); len(l) > 0 || err == nil {
			t.Errorf("%q: %+v, %v", text, l, err)
		}
	}
}

func TestPiecesOfAutomata(t *testing.T) {
	f, err := samples.Follow(`rule "ab" => t`)
	if err != nil || len(f.Next) != 2 {
		t.Fatalf("%+v, %v", f, err)
	}
	pieces := samples.FollowPieces(f)
	if longs := samples.FollowLongs(pieces); !reflect.DeepEqual(pieces, f) || len(longs.Sets) < 3 || longs.Rules[2] != -9 || longs.First[0][1] != -9 || longs.Next[2][0] != -9 {
		t.Errorf("%+v, %+v", pieces, longs)
	}
	d := api.Dense{Next: [][]int{make([]int, 256)}, Label: []int{-1}}
	piece := samples.DensePieces(d)
	if longs := samples.DenseLongs(piece); !reflect.DeepEqual(piece, d) || longs.Label[1] != -9 || longs.Next[0][256] != -9 || longs.Next[1][0] != -9 {
		t.Errorf("%+v, %+v", piece, longs)
	}
	if _, err := samples.Follow("rule"); err == nil {
		t.Error("no rule file")
	}
}

func TestDenseAndOthers(t *testing.T) {
	for what, d := range samples.NotDense() {
		if subset.Check(d) {
			t.Errorf("%s may be", what)
		}
	}
	c := samples.Chance(1)
	for range 100 {
		d := c.Dense(1+c.Of(9), 3)
		blown, like := c.Blown(d, len(d.Next)+c.Of(9))
		if !subset.Check(d) || !subset.Check(blown) || len(like) != len(blown.Next) || like[0] != 0 {
			t.Fatalf("%s, %s, %v", samples.DenseText(d), samples.DenseText(blown), like)
		}
		for s, row := range blown.Next {
			for b, to := range row {
				if like[to] != d.Next[like[s]][b] || blown.Label[s] != d.Label[like[s]] {
					t.Fatalf("%s, %s, %v: state %d", samples.DenseText(d), samples.DenseText(blown), like, s)
				}
			}
		}
	}
}

func TestAllSmallAutomata(t *testing.T) {
	seen := map[string]int{}
	samples.AllDense(2, 3, func(d api.Dense) {
		if !subset.Check(d) {
			t.Errorf("%s may not be", samples.DenseText(d))
		}
		seen[samples.DenseText(d)]++
	})
	if len(seen) != 9*16 {
		t.Errorf("%d automata", len(seen))
	}
}

func TestTextsOfAutomata(t *testing.T) {
	if got := samples.DenseText(samples.Two()); got != "-1: 00>0 a>1 b>0; 7: 00>1 a>0 b>1" {
		t.Error(got)
	}
	if got := samples.DenseText(samples.Ring(3, func(s int) int { return s * s })); got != "0: 00>1; 1: 00>2; 4: 00>0" {
		t.Error(got)
	}
	if got := samples.DenseText(samples.ByTwo([]int{5, -1}, [2]int{1, 0}, [2]int{1, 1})); got != "5: 00>1 a>0 b>1; -1: 00>1" {
		t.Error(got)
	}
	l, err := samples.Cores(`rule [\x00-\xf0]|"~a" => t`)
	d, bad := samples.Dense(l, 0)
	if got := samples.DenseText(d); err != nil || bad != nil || got != "-1: 00>1 7e>2 7f>1 f1>3; 0: 00>3; 0: 00>3 a>1 b>3; -1: 00>3" {
		t.Errorf("%s, %v, %v", got, err, bad)
	}
	if found := samples.FoundFrom0(d); !slices.Equal(found, samples.UpTo(0, 3)) {
		t.Errorf("%v", found)
	}
	if _, err := samples.Dense(l, 1); err == nil {
		t.Error("no rule of its")
	}
}

func TestWordsInOrder(t *testing.T) {
	if l := samples.InOrder("ab", 2); !slices.Equal(l, []string{"", "a", "b", "aa", "ab", "ba", "bb"}) {
		t.Errorf("%q", l)
	}
	if d := samples.Two(); samples.LabelBehind(d, 0, "ba") != 7 || samples.LabelBehind(d, 1, "a") != -1 || samples.LabelBehind(d, 1, "") != 7 {
		t.Error("labels behind words")
	}
}

func TestTablesAndOthers(t *testing.T) {
	r := samples.Table()
	if got := samples.RowsText(r); !rows.Check(r) || got != "starts 0 2; classes 00>0 a>1 b>0 c>2 d>0 ff>1; -1: -1 1 2; 0: 2 0 -1; 7: 1 -1 0" {
		t.Error(got)
	}
	for what, r := range samples.NotRows() {
		if rows.Check(r) {
			t.Errorf("%s may be", what)
		}
	}
	piece := samples.RowsPieces(r)
	if longs := samples.RowsLongs(piece); !reflect.DeepEqual(piece, r) || longs.Classes[256] != -9 || longs.Starts[2] != -9 || longs.Next[0][3] != -9 || longs.Next[3][0] != -9 || longs.Label[3] != -9 {
		t.Errorf("%+v, %+v", piece, longs)
	}
	if lists := samples.RowsLists(samples.Table()); len(lists) != 6 || len(lists[0]) != 256 || len(lists[1]) != 2 || len(lists[2]) != 3 || len(lists[5]) != 3 {
		t.Errorf("%v", lists)
	}
}

func TestCombsAndOthers(t *testing.T) {
	c := samples.Comb()
	if got := samples.CombText(c); !comb.Check(c, 3) || got != "0/-1 1/0 0/1 2/0; 0:1 - 0:0 1:-1 3:3" {
		t.Error(got)
	}
	for what, c := range samples.NotCombs() {
		if comb.Check(c, 3) || comb.Check(c, 256) {
			t.Errorf("%s may be", what)
		}
	}
	if !comb.Check(samples.Chain(600), 1) || !comb.Check(samples.FreeSlots(1<<18, 1<<18-1), 1) || !comb.Check(samples.FreeSlots(1, 0), 1) {
		t.Error("a chain, and one slot behind free ones, may not be")
	}
	piece := samples.CombPieces(c)
	if longs := samples.CombLongs(piece); !reflect.DeepEqual(piece, c) || longs.Base[4] != -9 || longs.Default[4] != -9 || longs.Next[5] != -9 || longs.Check[5] != -9 {
		t.Errorf("%+v, %+v", piece, longs)
	}
	if lists := samples.CombLists(samples.Comb()); len(lists) != 4 || len(lists[0]) != 4 || len(lists[1]) != 4 || len(lists[2]) != 5 || len(lists[3]) != 5 {
		t.Errorf("%v", lists)
	}
}

func TestTablesOfRows(t *testing.T) {
	if got := samples.RowsText(samples.TableOf([]int{-1, 1, 0}, []int{0, 0, 0})); got != "starts 0; classes 00>0 01>1 02>2; 0: -1 1 0; 0: 0 0 0" {
		t.Error(got)
	}
	seen := map[string]int{}
	samples.AllRows(2, 2, func(r api.Rows) {
		if !rows.Check(r) {
			t.Errorf("%s may not be", samples.RowsText(r))
		}
		seen[samples.RowsText(r)]++
	})
	if len(seen) != 81 {
		t.Errorf("%d tables", len(seen))
	}
}
