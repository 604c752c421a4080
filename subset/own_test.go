package subset_test

import (
	"reflect"
	"slices"
	"testing"

	"bolter/api"
	"bolter/byteset"
	"bolter/fault"
	"bolter/samples"
	"bolter/subset"
)

// P11.5

const (
	someRules = "rule \"a\"(\"b\"|\"c\")* => t\nrule () => u\nrule \"a\"? / \"b\" => v"
	someShown = "1: 00>1 a>2 b>3 c>1; -1: 00>1; 0: 00>1 b>4 c>5 d>1; 2: 00>1; 0: 00>1 b>5 d>1; 0: 00>1 b>5 d>1"
)

func someActive() [][]int {
	return [][]int{{0, 1, 2}, {}, {1}, {0, 2}}
}

// What lies behind a list's length is neither read nor written; what is handed in stays.
func TestWhatIsHandedInStays(t *testing.T) {
	f, active := samples.FollowPieces(followOf(t, someRules)), samples.RowPieces(someActive())
	kept, rows := samples.FollowLongs(f), samples.RowLongs(active)
	if got := shown(built(t, "pieces", f, active[0])); got != someShown {
		t.Errorf("%s, want %s", got, someShown)
	}
	wantModes(t, "pieces", f, active, 6, 1, 2, 6)
	wantFault(t, "pieces", f, samples.PieceOf([]int{0, 3}, 1), api.CodeArg)
	if !reflect.DeepEqual(samples.FollowLongs(f), kept) || !reflect.DeepEqual(samples.RowLongs(active), rows) {
		t.Errorf("%+v, %v; want %+v, %v", samples.FollowLongs(f), samples.RowLongs(active), kept, rows)
	}
	many := samples.FollowPieces(ring(700, byteset.Of('a')))
	kept = samples.FollowLongs(many)
	wantFault(t, "many", many, []int{0}, api.CodeTooManyStates)
	if !reflect.DeepEqual(samples.FollowLongs(many), kept) {
		t.Error("many: written over")
	}
}

func TestWhatIsCheckedStays(t *testing.T) {
	bad := two()
	bad.Next[1][255] = 2
	for _, d := range []api.Dense{two(), bad, states(600), {}} {
		want := subset.Check(d)
		whole, text := samples.DensePieces(d), samples.PieceOf([]byte("aba"), 'a')
		kept, keptText := samples.DenseLongs(whole), slices.Clone(text[:cap(text)])
		if got := subset.Check(whole); got != want {
			t.Errorf("%s may be: %v", short(shown(d)), got)
		}
		state, _ := subset.Run(d, []byte("aba"))
		if s, err := subset.Run(whole, text); s != state || (err == nil) != want {
			t.Errorf("%s: %d, %v; want %d", short(shown(d)), s, err, state)
		}
		if !reflect.DeepEqual(samples.DenseLongs(whole), kept) || !slices.Equal(text[:cap(text)], keptText) {
			t.Errorf("%s: written over", short(shown(d)))
		}
	}
}

// No two lists of an answer share memory, be it behind their lengths.
func TestListsShareNothing(t *testing.T) {
	for _, c := range []struct {
		f      api.Follow
		active [][]int
	}{
		{followOf(t, someRules), someActive()}, {followOf(t, someRules), slices.Repeat([][]int{{0, 1, 2}}, 16)}, {rings(byteset.Of('a'), 298, 298), [][]int{{0}, {1}, nil, nil}}, {api.Follow{}, make([][]int, 16)},
	} {
		l, err := subset.All(c.f, c.active)
		if err != nil {
			t.Fatal(err)
		}
		lists := listsOf(l)
		for i, list := range lists {
			for j := range list {
				list[j] = i
			}
		}
		for i, list := range lists {
			if slices.ContainsFunc(list, func(n int) bool { return n != i }) {
				t.Fatalf("%v: list %d is written over: %s", c.active, i, short(list))
			}
		}
		for i := range l {
			for j := range l[i].Next {
				l[i].Next[:cap(l[i].Next)][j] = []int{i}
			}
		}
		for i, d := range l {
			if slices.ContainsFunc(d.Next, func(row []int) bool { return row[0] != i }) {
				t.Fatalf("%v: the rows of mode %d are written over", c.active, i)
			}
		}
	}
}

// Whoever writes into what is told, or was handed in, changes nothing else.
func TestAnswersAreOnesOwn(t *testing.T) {
	f, active := followOf(t, someRules), someActive()
	first, err := subset.All(f, active)
	second, again := subset.All(f, active)
	if err != nil || again != nil {
		t.Fatal(err, again)
	}
	for _, list := range listsOf(first) {
		for i := range list {
			list[i] = -9
		}
	}
	clear(first)
	if shown(second[0]) != someShown || !reflect.DeepEqual(f, followOf(t, someRules)) || !reflect.DeepEqual(active, someActive()) {
		t.Errorf("written over: %s, %+v, %v", shown(second[0]), f, active)
	}
	wantModes(t, "written over", f, active, 6, 1, 2, 6)
	clear(f.Sets)
	for _, rows := range [][][]int{f.First, f.Next, active} {
		for _, row := range rows {
			clear(row)
		}
	}
	if shown(second[0]) != someShown || shown(second[2]) != "1: 00>1; -1: 00>1" {
		t.Errorf("what was handed in is kept: %s", shown(second[0]))
	}
}

func TestEmptyListsAreNone(t *testing.T) {
	none := api.Follow{Sets: []api.Set{}, Rules: []int{}, First: [][]int{}, Next: [][]int{}}
	one := api.Dense{Next: [][]int{make([]int, 256)}, Label: []int{-1}}
	for _, f := range []api.Follow{{}, none, {First: [][]int{{}, nil}}} {
		wantDense(t, "nil", f, nil, one)
		wantDense(t, "an empty list", f, []int{}, one)
		wantModes(t, "both", f, [][]int{nil, {}}, 1, 1)
	}
	wantRun(t, two(), "", 0)
}

// Lists may stand in several places.
func TestSharedLists(t *testing.T) {
	places := []int{0, 1, 2}
	f := api.Follow{Sets: []api.Set{byteset.Of('a'), byteset.Of('b')}, Rules: places[:1:1], First: [][]int{places}, Next: [][]int{places, places}}
	f.Rules = []int{0, 0}
	wantFormal(t, "shared", f, places[:1])
	rows := [][]int{places[:1], places[:1]}
	wantModes(t, "shared", f, rows, 2, 2)
	row := make([]int, 256)
	if d := (api.Dense{Next: [][]int{row, row}, Label: row[:2]}); !subset.Check(d) {
		t.Error("one list in three places may not be")
	}
}

// Whatever is handed in, all ends, and the same is told each time.
func TestAllEnds(t *testing.T) {
	c := chance{6}
	refused := 0
	for range 20000 {
		f := c.follow(c.Of(3), 3)
		c.spoil(f.First)
		c.spoil(f.Next)
		active := c.numbers(len(f.First))
		d, err := subset.Build(f, active)
		if err != nil && (fault.Code(err) != api.CodeArg || len(d.Next)+len(d.Label) > 0) || err == nil && !subset.Check(d) {
			t.Errorf("%+v, %v: %s, %v", f, active, shown(d), err)
		}
		again, fail := subset.Build(f, active)
		if !reflect.DeepEqual(again, d) || fault.Code(fail) != fault.Code(err) {
			t.Errorf("%+v, %v: other answers: %s, %s", f, active, shown(d), shown(again))
		}
		if err != nil {
			refused++
		}
	}
	if min(refused, 20000-refused) < 2000 {
		t.Errorf("%d are refused", refused)
	}
}

// spoil writes, now and then, any number at all into some row.
func (c *chance) spoil(rows [][]int) {
	if len(rows) == 0 || c.Of(3) > 0 {
		return
	}
	i := c.Of(len(rows))
	rows[i] = append(slices.Clone(rows[i]), c.numbers(4)...)
}

func (c *chance) numbers(n int) []int {
	if c.Of(2) == 0 {
		return c.some(n)
	}
	var l []int
	for range c.Of(3) {
		l = append(l, []int{0, 0, 1, 1, 2, 3, 4, -1, 1 << 62, -1 << 63, 1<<63 - 1}[c.Of(11)])
	}
	return l
}

// Automata of any numbers at all are checked, and run, to an end.
func TestAnyNumbersAreChecked(t *testing.T) {
	c := chance{7}
	may := 0
	for range 5000 {
		d := c.WildDense()
		want := len(d.Label) == len(d.Next) && !slices.ContainsFunc(d.Label, func(r int) bool { return r < -1 || r > 199 })
		for _, row := range d.Next {
			want = want && len(row) == 256 && slices.Min(row) >= 0 && slices.Max(row) < len(d.Next)
		}
		if got := subset.Check(d); got != want {
			t.Errorf("%d states, %v may be: %v", len(d.Next), d.Label, got)
		}
		if s, err := subset.Run(d, []byte("abc")); (err == nil) != want || s != 0 && err != nil {
			t.Errorf("%d, %v", s, err)
		}
		if want {
			may++
		}
	}
	if min(may, 5000-may) < 400 {
		t.Errorf("%d may be", may)
	}
}
