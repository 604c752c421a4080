package match_test

import (
	"math"
	"reflect"
	"slices"
	"strings"
	"testing"

	"bolter/api"
	"bolter/fault"
	"bolter/match"
	"bolter/samples"
)

// P9.7

const some = "rule \"a\"+ / \"bc\" => t\nrule (\"ab\"|()) \"c\"* => u\nrule [a-z]{1,3} => v"

// What lies behind a list's length is neither read nor written; what is handed in stays.
func TestWhatIsHandedInStays(t *testing.T) {
	l := samples.PieceOf(samples.Changed(coresOf(t, some), samples.Pieces), trailed(empty(), empty()))
	active, text := samples.PieceOf([]int{2, 0, 2, 1}, -9), samples.PieceOf([]byte("abcc"), 'c')
	keptL, keptActive, keptText := samples.Changed(l[:cap(l)], samples.Longs), slices.Clone(active[:cap(active)]), slices.Clone(text[:cap(text)])
	ends, err := match.Ends(l[1].Head, text)
	next, fail := match.Next(l[1].Head, text)
	if !slices.Equal(ends, []int{0, 2, 3, 4}) || next != set("c").Set || err != nil || fail != nil {
		t.Errorf("%v, %v, %v, %v", ends, next, err, fail)
	}
	label, err := match.Label(l, active, text)
	n, r, fail := match.Longest(l, active, text)
	if label != 1 || n != 4 || r != 1 || err != nil || fail != nil {
		t.Errorf("%d, %d, %d, %v, %v", label, n, r, err, fail)
	}
	if !reflect.DeepEqual(samples.Changed(l[:cap(l)], samples.Longs), keptL) || !slices.Equal(active[:cap(active)], keptActive) || !slices.Equal(text[:cap(text)], keptText) {
		t.Errorf("%+v, %v, %q", l, active[:cap(active)], text[:cap(text)])
	}
}

// Whoever writes into what is told, or was handed in, changes nothing else.
func TestAnswersAreOnesOwn(t *testing.T) {
	l, text := coresOf(t, some), []byte("aabc")
	e := star(set("ab"))
	first, _ := match.Ends(e, text)
	second, _ := match.Ends(e, text)
	for i := range first[:cap(first)] {
		first[:cap(first)][i] = -9
	}
	wantEnds(t, "written over", e, "aabc", 0, 1, 2, 3)
	for i := range text {
		text[i] = 'x'
	}
	e.Args[0] = api.Expr{}
	if !slices.Equal(second, []int{0, 1, 2, 3}) {
		t.Errorf("written over: %v", second)
	}
	wantLongest(t, "written over", l, []int{0, 1, 2}, "aabc", 4, 0)
}

func TestEmptyListsAreNone(t *testing.T) {
	a, e := set("a"), empty()
	a.Args, e.Args = []api.Expr{}, []api.Expr{}
	wantEnds(t, "empty lists", cat(a, alt(e, a)), "aaa", 1, 2)
	wantNext(t, "empty lists", cat(a, alt(e, a)), "", "a")
	for _, text := range [][]byte{nil, {}} {
		ends, err := match.Ends(e, text)
		next, fail := match.Next(a, text)
		label, no := match.Label([]api.Core{rule(a), rule(e)}, []int{0, 1}, text)
		if !slices.Equal(ends, []int{0}) || next != a.Set || label != 1 || err != nil || fail != nil || no != nil {
			t.Errorf("%v, %v, %d, %v, %v, %v", ends, next, label, err, fail, no)
		}
	}
}

// Lists may stand in several places, and are followed in each of them by themselves.
func TestSharedLists(t *testing.T) {
	e := alt(set("a"), cat(set("b"), set("b")))
	for range 8 {
		args := []api.Expr{e, e}
		e = api.Expr{Op: api.OpCat, Args: args}
	}
	wantEnds(t, "shared", e, strings.Repeat("a", 300), 256)
	wantEnds(t, "shared", e, strings.Repeat("bb", 255)+"aa", 511)
	wantNext(t, "shared", e, strings.Repeat("bb", 255)+"b", "b")
	both := []api.Core{trailed(e, e), rule(e)}
	wantLongest(t, "shared", both, []int{0, 1}, strings.Repeat("a", 511), 256, 1)
	wantLongest(t, "shared", both, []int{0, 1}, strings.Repeat("a", 512), 512, 0)
}

// A list that stands in itself ends, too.
func TestListsInThemselves(t *testing.T) {
	args := make([]api.Expr, 2)
	e := api.Expr{Op: api.OpAlt, Args: args}
	args[0], args[1] = e, e
	wantNone(t, "itself", e, []byte("a"))
	wantNoRule(t, "the head", []api.Core{rule(e)}, nil, nil)
	wantNoRule(t, "the trail", []api.Core{trailed(set("a"), e)}, nil, nil)
	wantNoRule(t, "no trail", []api.Core{{Head: set("a"), Trail: e}}, nil, nil)
}

// answers are all that is told of an expression and of rules.
type answers struct {
	ends           []int
	next           api.Set
	label, n, rule int
	faults         [4]int
}

func answersOf(e api.Expr, l []api.Core, active []int, text []byte) answers {
	ends, ofEnds := match.Ends(e, text)
	next, ofNext := match.Next(e, text)
	label, ofLabel := match.Label(l, active, text)
	n, rule, ofLongest := match.Longest(l, active, text)
	return answers{ends, next, label, n, rule, [4]int{fault.Code(ofEnds), fault.Code(ofNext), fault.Code(ofLabel), fault.Code(ofLongest)}}
}

// mayBe asks that beside an error nothing else is told, and that calls that ask the same refuse the same.
func (a answers) mayBe() bool {
	switch of, ofRules := a.faults[0], a.faults[2]; {
	case of != a.faults[1] || ofRules != a.faults[3]:
		return false
	case of != api.CodeNone && (of != api.CodeArg || len(a.ends) > 0 || a.next != api.Set{}):
		return false
	case ofRules != api.CodeNone:
		return ofRules == api.CodeArg && a.label == 0 && a.n == 0 && a.rule == 0
	}
	return (a.n == 0) == (a.rule == -1)
}

// Whatever is handed in, all ends, and the same is told each time.
func TestAllEnds(t *testing.T) {
	c := chance{13}
	for range 20000 {
		e, f := c.Wild(3), c.core(3)
		l := []api.Core{{Head: []api.Expr{e, f}[c.Of(2)], HasTrail: c.Of(2) == 0, Trail: []api.Expr{e, f, {}}[c.Of(3)]}, rule(f)}
		active := []int{[]int{0, 1, 2, -1, math.MaxInt}[c.Of(5)], 1}[:c.Of(3)]
		text := []byte(c.Text(5))
		got := answersOf(e, l, active, text)
		if !got.mayBe() {
			t.Errorf("%+v, %+v, %v, %q: %+v", e, l, active, text, got)
		}
		if again := answersOf(e, l, active, text); !reflect.DeepEqual(again, got) {
			t.Errorf("%+v, %+v, %v, %q: other answers: %+v, %+v", e, l, active, text, got, again)
		}
	}
	wantNone(t, "deep", nested(set("a"), 1<<16-2, 0, -1), nil)
}
