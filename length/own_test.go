package length_test

import (
	"reflect"
	"slices"
	"testing"

	"bolter/api"
	"bolter/fault"
	"bolter/length"
	"bolter/samples"
)

// P8.4

const many = "rule \"a\"+ / \"bc\" => t\nrule \"ab\" / \"c\"* => u\nrule [a-z]{1,3} => v\nrule (\"a\"|()) \"b\" / [] => w"

func manyCuts() []api.Cut { return []api.Cut{cutTrail(2), cutHead(2), {}, cutTrail(0)} }

// What lies behind a list's length is neither read nor written; what is handed in stays.
func TestWhatIsHandedInStays(t *testing.T) {
	whole := samples.PieceOf(samples.Changed(coresOf(t, many), samples.Pieces), trailed(empty(), empty()))
	kept := samples.Changed(whole[:cap(whole)], samples.Longs)
	wantCuts(t, "pieces", whole, manyCuts()...)
	for i, c := range whole {
		want := []api.Lengths{from(1, -1), from(2, 2), from(1, 3), from(1, 2)}[i]
		wantOf(t, c.Head, c.Head, want)
	}
	if got := samples.Changed(whole[:cap(whole)], samples.Longs); !reflect.DeepEqual(got, kept) {
		t.Errorf("%+v, want %+v", got, kept)
	}
}

// Whoever writes into what is told changes nothing else.
func TestAnswersAreOnesOwn(t *testing.T) {
	l := coresOf(t, many)
	first, _ := length.Cuts(l)
	second, _ := length.Cuts(l)
	for i := range first[:cap(first)] {
		first[:cap(first)][i] = api.Cut{Kind: -9, N: -9}
	}
	if !slices.Equal(second, manyCuts()) || !reflect.DeepEqual(l, coresOf(t, many)) {
		t.Errorf("written over: %+v, %+v", second, l)
	}
	wantCuts(t, "written over", l, manyCuts()...)
	for i := range l {
		l[i] = api.Core{}
	}
	if !slices.Equal(second, manyCuts()) {
		t.Errorf("the cores are kept: %+v", second)
	}
}

func TestEmptyListsAreNone(t *testing.T) {
	a, e := set("a"), empty()
	a.Args, e.Args = []api.Expr{}, []api.Expr{}
	wantOf(t, "empty lists", cat(a, alt(e, a)), from(1, 2))
	wantCuts(t, "empty lists", []api.Core{trailed(a, maybe(a)), trailed(plus(a), e)}, cutHead(1), cutTrail(0))
}

// Lists may stand in several places.
func TestSharedLists(t *testing.T) {
	e := set("a")
	for range 12 {
		args := []api.Expr{e, e}
		e = api.Expr{Op: api.OpCat, Args: args}
	}
	wantOf(t, "shared", e, from(1<<12, 1<<12))
	wantCuts(t, "shared", []api.Core{trailed(e, maybe(e)), trailed(plus(e), e), rule(e)}, cutHead(1<<12), cutTrail(1<<12), api.Cut{})
	for range 8 {
		args := []api.Expr{e, e}
		e = api.Expr{Op: api.OpAlt, Args: args}
	}
	if _, err := length.Of(e); !isFault(err, argFault()) {
		t.Errorf("too great: %v", err)
	}
}

// A list that stands in itself ends, too.
func TestListsInThemselves(t *testing.T) {
	args := make([]api.Expr, 2)
	e := api.Expr{Op: api.OpAlt, Args: args}
	args[0], args[1] = e, e
	if _, err := length.Of(e); !isFault(err, argFault()) {
		t.Errorf("%v", err)
	}
	wantNoCuts(t, "the trail", []api.Core{trailed(set("a"), e)}, argFault())
	wantNoCuts(t, "no trail", []api.Core{{Head: set("a"), Trail: e}}, argFault())
}

// Whatever is handed in, all ends, and the same is told each time.
func TestAllEnds(t *testing.T) {
	c := chance{13}
	for range 20000 {
		e, f := c.Wild(3), c.core(3)
		l := []api.Core{{Head: []api.Expr{e, f}[c.Of(2)], HasTrail: c.Of(2) == 0, Trail: []api.Expr{e, f, {}}[c.Of(3)]}, rule(f)}
		lengths, err := length.Of(e)
		cuts, fail := length.Cuts(l)
		if err != nil && lengths != (api.Lengths{}) || fail != nil && len(cuts) > 0 || fail == nil && len(cuts) != len(l) {
			t.Errorf("%+v: %+v, %v; %+v: %+v, %v", e, lengths, err, l, cuts, fail)
		}
		if code := fault.Code(fail); code != api.CodeNone && code != api.CodeArg && code != api.CodeTrail {
			t.Errorf("%+v: %v", l, fail)
		}
		sameLengths, sameErr := length.Of(e)
		sameCuts, sameFail := length.Cuts(l)
		if sameLengths != lengths || !slices.Equal(sameCuts, cuts) || !reflect.DeepEqual(fault.Tell(sameErr), fault.Tell(err)) || !reflect.DeepEqual(fault.Tell(sameFail), fault.Tell(fail)) {
			t.Errorf("%+v, %+v: other answers", e, l)
		}
	}
	if _, err := length.Of(nested(set("a"), 1<<16-2, 0, -1)); !isFault(err, argFault()) {
		t.Errorf("deep: %v", err)
	}
}
