package expand_test

import (
	"math"
	"reflect"
	"slices"
	"testing"

	"bolter/api"
	"bolter/expand"
	"bolter/fault"
)

// P7.6

const sharing = "let d = [x] \"y\"{1,3}\nlet e = {d}{2} ({d} | ())*\n" +
	"rule {d}{3} {d}{2,} {e} / {d}{0,3} => t\nrule {e} / {e} => u\nrule {d} / () => v\nrule {d} => v\nrule \"ab\"{2}{0,2}{3,}{2,4} => w"

// seen keeps where the lists of answers lie.
type seen map[*api.Expr]bool

// wantNew asks that each list of an expression, and the room behind it, lies where none has lain.
func (s seen) wantNew(t *testing.T, e api.Expr) {
	t.Helper()
	each(e, func(e api.Expr) {
		room := e.Args[:cap(e.Args)]
		for i := range room {
			if s[&room[i]] {
				t.Fatalf("%s shares its list", shown(e))
			}
			s[&room[i]] = true
		}
	})
}

func TestNoTwoListsShareMemory(t *testing.T) {
	s := parsed(t, sharing)
	lists := seen{}
	for _, d := range s.Defs {
		lists.wantNew(t, d.Expr)
	}
	for _, u := range s.Rules {
		lists.wantNew(t, u.Head)
		lists.wantNew(t, u.Trail)
	}
	for range 2 {
		l, err := expand.Expand(s)
		if err != nil || len(l) != 5 {
			t.Fatalf("%+v, %v", l, err)
		}
		for _, c := range l {
			lists.wantNew(t, c.Head)
			lists.wantNew(t, c.Trail)
		}
	}
	c := chance(21)
	for range 500 {
		l, _ := expand.Expand(c.file(4, 4))
		lists := seen{}
		for _, core := range l {
			lists.wantNew(t, core.Head)
			lists.wantNew(t, core.Trail)
		}
	}
}

// spoil writes over each list of a core, and behind it.
func spoil(e api.Expr) {
	for i, a := range e.Args[:cap(e.Args)] {
		spoil(a)
		e.Args[:cap(e.Args)][i] = api.Expr{Op: -9, Text: "gone"}
	}
}

func TestAnswersAreOnesOwn(t *testing.T) {
	s := parsed(t, sharing)
	first, _ := expand.Expand(s)
	second, _ := expand.Expand(s)
	for i := range first {
		spoil(first[i].Head)
		spoil(first[i].Trail)
		first[i] = api.Core{}
	}
	third, err := expand.Expand(s)
	if err != nil || !equal(second, third) || !reflect.DeepEqual(s, parsed(t, sharing)) {
		t.Errorf("written over: %+v, then %+v, %v", second, third, err)
	}
	sizes, _ := expand.Sizes(s)
	want := slices.Clone(sizes)
	for i := range sizes {
		sizes[i] = -9
	}
	wantSizes(t, "written over", s, want...)
}

// What is told stays, whatever is done to the file.
func TestWhatIsHandedInIsNotKept(t *testing.T) {
	s := parsed(t, sharing)
	l, _ := expand.Expand(s)
	for _, d := range s.Defs {
		spoil(d.Expr)
	}
	for _, u := range s.Rules {
		spoil(u.Head)
		spoil(u.Trail)
	}
	want, _ := expand.Expand(parsed(t, sharing))
	if !equal(l, want) {
		t.Errorf("%+v, want %+v", l, want)
	}
}

func pieceOf[T any](l []T, behind T) []T {
	long := append(slices.Clone(l), behind, behind, behind)
	return long[:len(l)]
}

// pieces makes each list of an expression a piece of a longer one.
func pieces(e api.Expr) api.Expr {
	e.Args = pieceOf(e.Args, times(ref("q"), 101, 101))
	for i, a := range e.Args {
		e.Args[i] = pieces(a)
	}
	return e
}

// longs tells an expression with what lies behind its lists.
func longs(e api.Expr) api.Expr {
	e.Args = slices.Clone(e.Args[:cap(e.Args)])
	for i, a := range e.Args {
		e.Args[i] = longs(a)
	}
	return e
}

func piecesOf(s api.Spec, change func(e api.Expr) api.Expr) api.Spec {
	s.Defs, s.Rules = slices.Clone(s.Defs), slices.Clone(s.Rules)
	for i, d := range s.Defs {
		s.Defs[i].Expr = change(d.Expr)
	}
	for i, u := range s.Rules {
		s.Rules[i].Head, s.Rules[i].Trail = change(u.Head), change(u.Trail)
	}
	return s
}

// What lies behind a list's length is neither read nor written; what is handed in stays.
func TestWhatIsHandedInStays(t *testing.T) {
	want, _ := expand.Expand(parsed(t, sharing))
	s := piecesOf(parsed(t, sharing), pieces)
	s.Defs = pieceOf(s.Defs, def("d", ref("q")))
	s.Rules = pieceOf(s.Rules, rule(times(ref("q"), 101, 101)))
	kept := piecesOf(s, longs)
	if l, err := expand.Expand(s); err != nil || !equal(l, want) {
		t.Errorf("pieces: %+v, %v, want %+v", l, err, want)
	}
	expand.Sizes(s)
	if !reflect.DeepEqual(piecesOf(s, longs), kept) {
		t.Errorf("changed: %+v, want %+v", piecesOf(s, longs), kept)
	}
	if r := s.Rules[:cap(s.Rules)]; r[len(s.Rules)].Head.Op != api.OpRepeat {
		t.Errorf("%+v", r[len(s.Rules)])
	}
	core := pieces(cat(set("a"), alt(set("b"), empty()), times(set("c"), 0, 1)))
	kept2 := longs(core)
	wantCheck(t, "pieces", core, true, 3)
	if !reflect.DeepEqual(longs(core), kept2) {
		t.Errorf("changed: %+v", core)
	}
}

func TestEmptyListsAreNone(t *testing.T) {
	some := func(e api.Expr) api.Expr {
		if e.Args == nil {
			e.Args = []api.Expr{}
		}
		return e
	}
	s := api.Spec{Modes: []api.Mode{}, Defs: []api.Def{def("d", some(set("a")))}, Rules: []api.Rule{{Modes: []api.Use{}, Head: cat(some(ref("d")), some(word("bc")), some(empty())), Trail: some(api.Expr{}), Label: "x", Acts: []api.Act{}}}}
	if got := shown(coreOf(t, s)); got != "(a (b c))" {
		t.Errorf("%s", got)
	}
	wantSizes(t, "empty lists", s, 3)
	wantSizes(t, "empty lists", api.Spec{Defs: []api.Def{}, Rules: []api.Rule{}})
	wantCheck(t, "empty lists", some(set("a")), true, 1)
	wantCheck(t, "empty lists", cat(some(set("a")), some(empty())), true, 1)
}

// All places of a core are 0, though its file's are not.
func TestNoPlaces(t *testing.T) {
	l, err := expand.Expand(parsed(t, sharing))
	for _, c := range l {
		if !expand.Check(c.Head) || c.HasTrail && !expand.Check(c.Trail) {
			t.Errorf("%+v", c)
		}
	}
	if err != nil || len(l) != 5 {
		t.Errorf("%d, %v", len(l), err)
	}
}

// R6: the same is told each time.
func TestTheSameEachTime(t *testing.T) {
	c := chance(12)
	for range 300 {
		s := c.file(4, 6)
		first, err := expand.Expand(s)
		for range 4 {
			l, again := expand.Expand(s)
			if !equal(l, first) || !reflect.DeepEqual(fault.Tell(again), fault.Tell(err)) {
				t.Fatalf("%+v: %+v, %v; then %+v, %v", s, first, err, l, again)
			}
		}
	}
}

// wild makes an expression of any numbers at all.
func (c *chance) wild(deep int) api.Expr {
	some := []int{0, 0, 1, 1, -1, 2, 100, 101, api.MaxNumber, math.MaxInt, math.MinInt}
	e := api.Expr{Op: c.of(10) - 1, At: some[c.of(5)], Min: some[c.of(len(some))], Max: some[c.of(len(some))]}
	if c.of(3) == 0 {
		e.Text = []string{"d0", "d1", "q", "", "\xff"}[c.of(5)]
	}
	if c.of(4) == 0 {
		e.Set[c.of(4)] = uint64(*c)
	}
	for deep > 0 && c.of(3) > 0 {
		e.Args = append(e.Args, c.wild(deep-1))
	}
	return e
}

// Whatever is handed in, all ends.
func TestAllEnds(t *testing.T) {
	c := chance(13)
	for range 20000 {
		s := c.file(3, 4)
		e := c.wild(4)
		switch c.of(4) {
		case 0:
			s.Defs = append(s.Defs, def("d9", e))
		case 1:
			s.Rules = append(s.Rules, rule(e))
		case 2:
			s.Rules = append(s.Rules, api.Rule{Head: set("a"), Trail: e, Label: "x", HasTrail: c.of(2) == 0})
		case 3:
			s.Rules = append(s.Rules, rule(times(set("a"), 1, 1+c.of(200))))
		}
		l, err := expand.Expand(s)
		sizes, fail := expand.Sizes(s)
		if err != nil && len(l) > 0 || fail != nil && len(sizes) > 0 {
			t.Errorf("%+v: %+v, %v beside %v, %v", s, l, sizes, err, fail)
		}
		switch fault.Code(err) {
		case api.CodeNone, api.CodeArg, api.CodeName, api.CodeDefCycle, api.CodeRepeat, api.CodeTooManyPositions:
		default:
			t.Errorf("%+v: %v", s, err)
		}
		if n := expand.Size(e); n > 0 && !expand.Check(e) {
			t.Errorf("%+v: %d positions", e, n)
		}
	}
	wantFault(t, "deep", file(nil, nested(set("a"), 1<<16-2)), api.Fault{Code: api.CodeArg})
}
