package names

import (
	"reflect"
	"slices"
	"strings"
	"testing"

	"bolter/api"
	"bolter/fault"
)

// P6.4

const wholeText = "mode a b\nown c d\nlet x = {z} {y}\nlet y = {z}+ | ()\nlet z = [z]\n" +
	"rule <a,b,c> {x} {y} {z} => l, push b, begin c, pop\nrule <*> {y} / {z} => m, begin d, pop, pop\nrule {x} => n, push d, begin d\n"

func whole(t *testing.T) (api.Spec, api.Names) {
	return parsed(t, wholeText), api.Names{
		Modes:  []string{"a", "b", "c", "d"},
		Active: [][]int{{0, 1, 2}, {0, 1, 2}, {0, 1}, {1}},
		Order:  []int{2, 1, 0},
		Acts: [][]api.Step{
			{{Do: api.ActPush, Mode: 1}, {Do: api.ActBegin, Mode: 2}, {Do: api.ActPop}},
			{{Do: api.ActBegin, Mode: 3}, {Do: api.ActPop}, {Do: api.ActPop}},
			{{Do: api.ActPush, Mode: 3}, {Do: api.ActBegin, Mode: 3}},
		},
	}
}

// spoil writes over a list.
func spoil[T any](l []T, with T) {
	for i := range l {
		l[i] = with
	}
}

// behind is the room behind a list's end.
func behind[T any](l []T) []T { return l[len(l):cap(l)] }

func overwrite(n api.Names) {
	spoil(n.Modes, "gone")
	spoil(n.Order, -9)
	for _, l := range n.Active {
		spoil(l, -9)
	}
	for _, l := range n.Acts {
		spoil(l, api.Step{Do: -9})
	}
	spoil(n.Active, nil)
	spoil(n.Acts, nil)
}

// grow writes behind each list of an answer, which the answer does not see.
func grow(n api.Names) {
	spoil(behind(n.Modes), "gone")
	spoil(behind(n.Order), -9)
	spoil(behind(n.Active), []int{-9})
	spoil(behind(n.Acts), []api.Step{{Do: -9}})
	for _, l := range n.Active {
		spoil(behind(l), -9)
	}
	for _, l := range n.Acts {
		spoil(behind(l), api.Step{Do: -9})
	}
}

func TestAnswersAreOnesOwn(t *testing.T) {
	s, want := whole(t)
	first, err := Resolve(s)
	if err != nil || !equal(first, want) {
		t.Fatalf("%+v, %v", first, err)
	}
	second, _ := Resolve(s)
	grow(first)
	if !equal(first, want) {
		t.Errorf("grown: %+v, want %+v", first, want)
	}
	overwrite(first)
	if again, _ := whole(t); !equal(second, want) || !reflect.DeepEqual(s, again) {
		t.Errorf("written over: %+v, %+v", second, s)
	}
	wantNames(t, "written over", s, want)
	// Each list alone.
	for i := range want.Active {
		n, _ := Resolve(s)
		_, w := whole(t)
		spoil(n.Active[i], 77)
		spoil(w.Active[i], 77)
		if !equal(n, w) {
			t.Errorf("one list written over: %+v, want %+v", n, w)
		}
	}
}

func TestUsesAreOnesOwn(t *testing.T) {
	e := cat(ref("a"), ref("b"), ref("a"), ref("c"))
	first, second := Uses(e), Uses(e)
	spoil(first, "gone")
	spoil(second[:cap(second)][2:], "gone")
	wantUses(t, "written over", e, "a", "b", "c")
	if !reflect.DeepEqual(e, cat(ref("a"), ref("b"), ref("a"), ref("c"))) {
		t.Errorf("changed: %+v", e)
	}
}

// What an error tells is the error's own, too.
func TestErrorsAreOnesOwn(t *testing.T) {
	s := parsed(t, "let a = {b}\nlet b = {c}\nlet c = {a}")
	_, err := Resolve(s)
	f := fault.Tell(err)
	f.Names[0], s.Defs[1].Name = "gone", "gone"
	if f := fault.Tell(err); !slices.Equal(f.Names, []string{"a", "b", "c"}) {
		t.Errorf("%+v", f)
	}
	_, first := Resolve(parsed(t, "rule {q} => t"))
	_, second := Resolve(parsed(t, "mode m m"))
	if !reflect.DeepEqual(fault.Tell(first), misnamedAt(5, "q")) || !reflect.DeepEqual(fault.Tell(second), misnamedAt(7, "m")) {
		t.Errorf("%v, %v", first, second)
	}
}

// pieces makes each list of a file a piece of a longer one.
func pieces(s api.Spec) api.Spec {
	s.Modes = pieceOf(s.Modes, api.Mode{Name: "a", At: -1})
	s.Defs = pieceOf(s.Defs, api.Def{Name: "x", Expr: ref("q")})
	s.Rules = pieceOf(s.Rules, api.Rule{All: true, Label: "1", Head: ref("q")})
	for i := range s.Defs {
		s.Defs[i].Expr = piecesOfExpr(s.Defs[i].Expr)
	}
	for i, u := range s.Rules {
		s.Rules[i].Modes = pieceOf(u.Modes, api.Use{Name: "d"})
		s.Rules[i].Acts = pieceOf(u.Acts, api.Act{Do: api.ActPush, Mode: api.Use{Name: "q"}})
		s.Rules[i].Head, s.Rules[i].Trail = piecesOfExpr(u.Head), piecesOfExpr(u.Trail)
	}
	return s
}

func pieceOf[T any](l []T, behind T) []T {
	long := append(slices.Clone(l), behind, behind, behind)
	return long[:len(l)]
}

func piecesOfExpr(e api.Expr) api.Expr {
	e.Args = pieceOf(e.Args, ref("q"))
	for i, arg := range e.Args {
		e.Args[i] = piecesOfExpr(arg)
	}
	return e
}

// longs tells a file with what lies behind its lists.
func longs(s api.Spec) api.Spec {
	s.Modes, s.Defs, s.Rules = slices.Clone(longOf(s.Modes)), slices.Clone(longOf(s.Defs)), slices.Clone(longOf(s.Rules))
	for i := range s.Defs {
		s.Defs[i].Expr = longsOfExpr(s.Defs[i].Expr)
	}
	for i, u := range s.Rules {
		s.Rules[i].Modes, s.Rules[i].Acts = slices.Clone(longOf(u.Modes)), slices.Clone(longOf(u.Acts))
		s.Rules[i].Head, s.Rules[i].Trail = longsOfExpr(u.Head), longsOfExpr(u.Trail)
	}
	return s
}

func longOf[T any](l []T) []T { return l[:cap(l)] }

func longsOfExpr(e api.Expr) api.Expr {
	e.Args = slices.Clone(longOf(e.Args))
	for i, arg := range e.Args {
		e.Args[i] = longsOfExpr(arg)
	}
	return e
}

// What lies behind a list's length is neither read nor written; what is handed in stays.
func TestWhatIsHandedInStays(t *testing.T) {
	s, want := whole(t)
	s = pieces(s)
	kept := longs(s)
	wantNames(t, "pieces", s, want)
	wantUses(t, "pieces", s.Rules[0].Head, "x", "y", "z")
	if !reflect.DeepEqual(longs(s), kept) {
		t.Errorf("changed: %+v, want %+v", longs(s), kept)
	}
	for _, text := range []string{"let x = {x}", "let x = {z}", "rule {q} => t", "mode a a", ""} {
		s := pieces(parsed(t, text))
		kept := longs(s)
		Resolve(s)
		if !reflect.DeepEqual(longs(s), kept) {
			t.Errorf("%q: changed: %+v, want %+v", text, longs(s), kept)
		}
	}
}

// The lone mode of a file without modes is not put into a list that is handed in.
func TestNoModesWithRoom(t *testing.T) {
	room := []api.Mode{{Name: "kept", At: 3}}
	s := api.Spec{Modes: room[:0], Rules: []api.Rule{ruleOf(api.Rule{Modes: []api.Use{{Name: "start"}}})}}
	wantNames(t, "no modes", s, api.Names{Modes: []string{"start"}, Active: [][]int{{0}}, Acts: [][]api.Step{nil}})
	if room[0] != (api.Mode{Name: "kept", At: 3}) || len(s.Modes) != 0 {
		t.Errorf("%+v", room)
	}
}

func TestEmptyListsAreNone(t *testing.T) {
	some := api.Spec{Modes: []api.Mode{}, Defs: []api.Def{}, Rules: []api.Rule{{Modes: []api.Use{}, Head: api.Expr{Op: api.OpRef, Text: "d", Args: []api.Expr{}}, Trail: api.Expr{Args: []api.Expr{}}, Label: "x", Acts: []api.Act{}}}}
	wantFault(t, "empty lists", some, misnamedAt(0, "d"))
	some.Defs = append(some.Defs, api.Def{Name: "d", Expr: api.Expr{Op: api.OpEmpty, Args: []api.Expr{}}})
	wantNames(t, "empty lists", some, api.Names{Modes: []string{"start"}, Active: [][]int{{0}}, Order: []int{0}, Acts: [][]api.Step{nil}})
	wantNames(t, "nothing", api.Spec{}, api.Names{Modes: []string{"start"}, Active: [][]int{nil}})
	wantUses(t, "empty lists", some.Rules[0].Head, "d")
}

// R6: the same is told each time.
func TestTheSameEachTime(t *testing.T) {
	c := chance(12)
	for range 300 {
		s := c.file(3)
		first, err := Resolve(s)
		for range 5 {
			n, again := Resolve(s)
			if !equal(n, first) || !reflect.DeepEqual(fault.Tell(again), fault.Tell(err)) {
				t.Fatalf("%+v: %+v, %v; then %+v, %v", s, first, err, n, again)
			}
		}
	}
}

// Whatever is handed in, all ends.
func TestAllEnds(t *testing.T) {
	c := chance(13)
	for range 5000 {
		s := c.file(3)
		e := c.expr(4)
		switch c.of(7) {
		case 0:
			s.Defs = append(s.Defs, api.Def{Name: "d9", Expr: e})
		case 1:
			s.Rules = append(s.Rules, api.Rule{Head: e, Label: "x"})
		case 2:
			s.Rules = append(s.Rules, api.Rule{Trail: e, Label: "x", HasTrail: c.of(2) == 0})
		case 3:
			s.Modes = append(s.Modes, api.Mode{Name: strings.Repeat("\xff", c.of(3)), At: -1 << 63})
		case 4:
			s.Rules = append(s.Rules, ruleOf(api.Rule{Acts: []api.Act{{Do: c.of(6) - 1}}}))
		case 5:
			s.Rules = append(s.Rules, ruleOf(api.Rule{At: 1<<63 - 1, Modes: []api.Use{{Name: "\x00"}}}))
		case 6:
			s.Defs = append(s.Defs, api.Def{Name: "d9", At: 1 << 62, Expr: nested(e, 3000)})
		}
		n, err := Resolve(s)
		if err != nil && !equal(n, api.Names{}) {
			t.Errorf("%+v: %+v beside %v", s, n, err)
		}
		switch fault.Code(err) {
		case api.CodeNone, api.CodeArg, api.CodeName, api.CodeDefCycle:
		default:
			t.Errorf("%+v: %v", s, err)
		}
	}
	deep := nested(ref("a"), 1<<16-2)
	wantFault(t, "deep", api.Spec{Defs: []api.Def{{Name: "a", Expr: deep}}}, api.Fault{Code: api.CodeArg})
}
