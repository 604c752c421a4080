package follow_test

import (
	"reflect"
	"slices"
	"testing"

	"bolter/api"
	"bolter/fault"
	"bolter/follow"
	"bolter/samples"
)

// P10.5

const (
	some     = "rule \"a\"(\"b\"|\"c\")* => t\nrule () => u\nrule \"d\"? / \"e\"+ => v"
	someRows = "[0 0 0 2 2] [[0] [6] [3 4]] [[1 2 5] [1 2 5] [1 2 5] [4] [4 7]]"
)

// What lies behind a list's length is neither read nor written; what is handed in stays.
func TestWhatIsHandedInStays(t *testing.T) {
	whole := samples.PieceOf(samples.Changed(coresOf(t, some), samples.Pieces), trailed(empty(), empty()))
	kept := samples.Changed(whole[:cap(whole)], samples.Longs)
	wantRows(t, "pieces", whole, someRows)
	if got := samples.Changed(whole[:cap(whole)], samples.Longs); !reflect.DeepEqual(got, kept) {
		t.Errorf("%+v, want %+v", got, kept)
	}
}

func TestWhatIsCheckedStays(t *testing.T) {
	for _, c := range []struct {
		f    api.Follow
		want bool
	}{
		{built(t, some, coresOf(t, some)), true}, {three(), true}, {great(1000, 200), true}, {great(1001, 1), false},
		{changed(three(), func(f *api.Follow) { f.Next[0] = []int{1, 0} }), false}, {changed(three(), func(f *api.Follow) { f.Rules[3] = 3 }), false},
	} {
		whole := samples.FollowPieces(c.f)
		kept := samples.FollowLongs(whole)
		if got := follow.Check(whole); got != c.want || !reflect.DeepEqual(samples.FollowLongs(whole), kept) {
			t.Errorf("%s may be: %v, %s", short(kept), got, short(samples.FollowLongs(whole)))
		}
	}
}

// listsOf is all rows of an automaton, each up to its capacity.
func listsOf(f api.Follow) [][]int {
	l := slices.Concat([][]int{f.Rules}, f.First[:cap(f.First)], f.Next[:cap(f.Next)])
	for i, row := range l {
		l[i] = row[:cap(row)]
	}
	return l
}

// No two lists of an answer share memory, be it behind their lengths.
func TestListsShareNothing(t *testing.T) {
	for _, l := range [][]api.Core{coresOf(t, some), {rule(star(alt(row(set("a"), 1000)...)))}, slices.Repeat([]api.Core{trailed(maybe(set("a")), star(set("b")))}, 200)} {
		f := built(t, l, l)
		lists := listsOf(f)
		for i, list := range lists {
			for j := range list {
				list[j] = i
			}
		}
		for i, list := range lists {
			if slices.ContainsFunc(list, func(n int) bool { return n != i }) {
				t.Fatalf("%s: list %d is written over: %s", short(l), i, short(list))
			}
		}
	}
}

// Whoever writes into what is told, or was handed in, changes nothing else.
func TestAnswersAreOnesOwn(t *testing.T) {
	l := coresOf(t, some)
	first, second := built(t, some, l), built(t, some, l)
	sets := slices.Clone(second.Sets)
	for _, list := range listsOf(first) {
		for i := range list {
			list[i] = -9
		}
	}
	for i := range first.Sets[:cap(first.Sets)] {
		first.Sets[:cap(first.Sets)][i] = api.Set{9}
	}
	clear(first.First[:cap(first.First)])
	clear(first.Next[:cap(first.Next)])
	if rowsOf(second) != someRows || !slices.Equal(second.Sets, sets) || !reflect.DeepEqual(l, coresOf(t, some)) {
		t.Errorf("written over: %+v, %+v", second, l)
	}
	wantRows(t, "written over", l, someRows)
	l[0].Head.Args[0] = api.Expr{}
	clear(l)
	if rowsOf(second) != someRows || !slices.Equal(second.Sets, sets) {
		t.Errorf("the cores are kept: %+v", second)
	}
}

func TestEmptyListsAreNone(t *testing.T) {
	a, e := set("a"), empty()
	a.Args, e.Args = []api.Expr{}, []api.Expr{}
	wantRows(t, "empty lists", []api.Core{trailed(a, alt(e, a)), {Head: e, Trail: api.Expr{Args: []api.Expr{}}}}, "[0 0] [[0] [3]] [[1 2] [2]]")
	wantRows(t, "no rules", nil, "[] [] []")
	wantRows(t, "no rules", []api.Core{}, "[] [] []")
}

// Lists may stand in several places: each has positions of its own.
func TestSharedLists(t *testing.T) {
	e := set("a")
	for range 3 {
		args := []api.Expr{e, maybe(e)}
		e = api.Expr{Op: api.OpCat, Args: args}
	}
	l := []api.Core{trailed(e, e), rule(e), trailed(star(e), e)}
	wantRows(t, "shared", l, rowsOf(formally(l)))
	for range 10 {
		args := []api.Expr{e, e}
		e = api.Expr{Op: api.OpAlt, Args: args}
	}
	wantFault(t, "too many", []api.Core{rule(e)}, api.CodeTooManyPositions)
}

// A list that stands in itself ends, too.
func TestListsInThemselves(t *testing.T) {
	args := make([]api.Expr, 2)
	e := api.Expr{Op: api.OpAlt, Args: args}
	args[0], args[1] = e, e
	wantFault(t, "the head", []api.Core{rule(e)}, api.CodeArg)
	wantFault(t, "the trail", []api.Core{rule(set("a")), trailed(set("a"), e)}, api.CodeArg)
	wantFault(t, "no trail", []api.Core{{Head: set("a"), Trail: e}}, api.CodeArg)
}

// Whatever is handed in, all ends, and the same is told each time.
func TestAllEnds(t *testing.T) {
	c := chance{13}
	refused := 0
	for range 20000 {
		e, f := c.Wild(3), c.core(3)
		l := []api.Core{{Head: []api.Expr{e, f}[c.Of(2)], HasTrail: c.Of(2) == 0, Trail: []api.Expr{e, f, {}}[c.Of(3)]}, rule(f)}[:1+c.Of(2)]
		got, err := follow.Build(l)
		if err != nil && (fault.Code(err) != api.CodeArg || !isNothing(got)) || err == nil && !follow.Check(got) {
			t.Errorf("%+v: %+v, %v", l, got, err)
		}
		if again, fail := follow.Build(l); !reflect.DeepEqual(again, got) || fault.Code(fail) != fault.Code(err) {
			t.Errorf("%+v: other answers: %+v, %+v", l, got, again)
		}
		if err != nil {
			refused++
		}
	}
	if min(refused, 20000-refused) < 2000 {
		t.Errorf("%d are refused", refused)
	}
	wantFault(t, "deep", []api.Core{rule(nested(set("a"), 1<<16-2, 0, -1))}, api.CodeArg)
}

// Automata of any numbers at all are checked to an end.
func TestAnyNumbersAreChecked(t *testing.T) {
	c := chance{17}
	for range 20000 {
		var f api.Follow
		f.Sets = make([]api.Set, c.Of(4))
		f.Rules = c.numbers()
		for range c.Of(4) {
			f.First = append(f.First, c.numbers())
		}
		for range c.Of(4) {
			f.Next = append(f.Next, c.numbers())
		}
		if got, want := follow.Check(f), mayBe(f); got != want {
			t.Errorf("%+v may be: %v", f, got)
		}
	}
}

func (c *chance) numbers() []int {
	var l []int
	for range c.Of(4) {
		l = append(l, []int{0, 0, 0, 1, 1, 2, 3, 4, -1, 1 << 62, -1 << 63, 1<<63 - 1}[c.Of(12)])
	}
	return l
}
