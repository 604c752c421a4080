package spec

import (
	"reflect"
	"testing"

	"bolter/api"
)

// whole has something in each field that a file has.
func whole() api.Spec {
	return api.Spec{
		Modes: []api.Mode{{Name: "a", At: 1}, {Name: "b", Own: true, At: 2}},
		Defs:  []api.Def{{Name: "d", At: 3, Expr: cat(set(4, "x"), times(5, 1, 2, text(6, "y")))}, {Name: "e", At: 7, Expr: alt(empty(8), ref(9, "d"))}},
		Rules: []api.Rule{
			{At: 10, All: true, Head: ref(11, "d"), HasTrail: true, Trail: cat(empty(12), set(13, "z")), Label: "l", Acts: []api.Act{{Do: api.ActPush, Mode: api.Use{Name: "b", At: 14}}, {Do: api.ActPop}}},
			{At: 15, Modes: []api.Use{{Name: "a", At: 16}, {Name: "b", At: 17}}, Head: times(18, 0, -1, empty(19)), Label: "m"},
		},
	}
}

// wholeBare is whole without places.
func wholeBare() api.Spec {
	return api.Spec{
		Modes: []api.Mode{{Name: "a"}, {Name: "b", Own: true}},
		Defs:  []api.Def{{Name: "d", Expr: cat(set(0, "x"), times(0, 1, 2, text(0, "y")))}, {Name: "e", Expr: alt(empty(0), ref(0, "d"))}},
		Rules: []api.Rule{
			{All: true, Head: ref(0, "d"), HasTrail: true, Trail: cat(empty(0), set(0, "z")), Label: "l", Acts: []api.Act{{Do: api.ActPush, Mode: api.Use{Name: "b"}}, {Do: api.ActPop}}},
			{Modes: []api.Use{{Name: "a"}, {Name: "b"}}, Head: times(0, 0, -1, empty(0)), Label: "m"},
		},
	}
}

// changes are what makes whole another file: each changes one thing.
func changes() []func(*api.Spec) {
	return []func(*api.Spec){
		func(s *api.Spec) { s.Modes[0].Name = "c" },
		func(s *api.Spec) { s.Modes[1].Own = false },
		func(s *api.Spec) { s.Modes[0], s.Modes[1] = s.Modes[1], s.Modes[0] },
		func(s *api.Spec) { s.Modes = s.Modes[:1] },
		func(s *api.Spec) { s.Modes = nil },
		func(s *api.Spec) { s.Modes = append(s.Modes, api.Mode{}) },
		func(s *api.Spec) { s.Defs[0].Name = "c" },
		func(s *api.Spec) { s.Defs[0].Expr.Op = api.OpAlt },
		func(s *api.Spec) { s.Defs[0].Expr.Args[0].Set[3] = 1 },
		func(s *api.Spec) { s.Defs[0].Expr.Args[1].Min = 2 },
		func(s *api.Spec) { s.Defs[0].Expr.Args[1].Max = 3 },
		func(s *api.Spec) { s.Defs[0].Expr.Args[1].Args[0].Text = "z" },
		func(s *api.Spec) { s.Defs[0].Expr.Args[1].Args = nil },
		func(s *api.Spec) { s.Defs[1].Expr.Args = s.Defs[1].Expr.Args[:1] },
		func(s *api.Spec) { s.Defs[1].Expr.Args[1].Text = "e" },
		func(s *api.Spec) { s.Defs = s.Defs[:1] },
		func(s *api.Spec) { s.Defs[0], s.Defs[1] = s.Defs[1], s.Defs[0] },
		func(s *api.Spec) { s.Rules[0].All = false },
		func(s *api.Spec) { s.Rules[1].Modes[1].Name = "a" },
		func(s *api.Spec) { s.Rules[1].Modes = s.Rules[1].Modes[:1] },
		func(s *api.Spec) { s.Rules[0].Head.Text = "e" },
		func(s *api.Spec) { s.Rules[1].Head.Args[0].Op = api.OpSet },
		func(s *api.Spec) { s.Rules[0].HasTrail = false },
		func(s *api.Spec) { s.Rules[0].Trail = api.Expr{} },
		func(s *api.Spec) { s.Rules[0].Trail.Args[1].Set = api.Set{} },
		func(s *api.Spec) { s.Rules[1].Trail.Op = api.OpEmpty },
		func(s *api.Spec) { s.Rules[1].Trail.Text = "x" },
		func(s *api.Spec) { s.Rules[0].Label = "m" },
		func(s *api.Spec) { s.Rules[0].Acts[0].Do = api.ActBegin },
		func(s *api.Spec) { s.Rules[0].Acts[0].Mode.Name = "a" },
		func(s *api.Spec) { s.Rules[0].Acts[1].Mode.Name = "a" },
		func(s *api.Spec) { s.Rules[0].Acts = s.Rules[0].Acts[:1] },
		func(s *api.Spec) { s.Rules[1].Acts = []api.Act{{}} },
		func(s *api.Spec) { s.Rules = s.Rules[:1] },
		func(s *api.Spec) { s.Rules = nil },
	}
}

// moves are what changes a place of whole.
func moves() []func(*api.Spec) {
	return []func(*api.Spec){
		func(s *api.Spec) { s.Modes[1].At = 99 },
		func(s *api.Spec) { s.Defs[0].At = 99 },
		func(s *api.Spec) { s.Defs[0].Expr.At = 99 },
		func(s *api.Spec) { s.Defs[0].Expr.Args[1].At = -99 },
		func(s *api.Spec) { s.Defs[0].Expr.Args[1].Args[0].At = 99 },
		func(s *api.Spec) { s.Rules[1].At = 1 << 62 },
		func(s *api.Spec) { s.Rules[1].Modes[0].At = 99 },
		func(s *api.Spec) { s.Rules[0].Head.At = 99 },
		func(s *api.Spec) { s.Rules[1].Head.Args[0].At = 99 },
		func(s *api.Spec) { s.Rules[0].Trail.At = 99 },
		func(s *api.Spec) { s.Rules[0].Trail.Args[0].At = 99 },
		func(s *api.Spec) { s.Rules[1].Trail.At = 99 },
		func(s *api.Spec) { s.Rules[0].Acts[0].Mode.At = 99 },
		func(s *api.Spec) { s.Rules[0].Acts[1].Mode.At = 99 },
	}
}

// P5.4

func TestBare(t *testing.T) {
	if b := Bare(whole()); !equal(b, wholeBare()) {
		t.Errorf("%+v, want %+v", b, wholeBare())
	}
	for i, move := range moves() {
		s := whole()
		move(&s)
		if b := Bare(s); !equal(b, wholeBare()) {
			t.Errorf("place %d: %+v", i, b)
		}
	}
	for i, change := range changes() {
		s, want := whole(), wholeBare()
		change(&s)
		change(&want)
		if b := Bare(s); !equal(b, want) {
			t.Errorf("change %d: %+v, want %+v", i, b, want)
		}
	}
	if b := Bare(api.Spec{Modes: []api.Mode{}, Rules: []api.Rule{{}}}); !equal(b, api.Spec{Rules: []api.Rule{{}}}) {
		t.Errorf("of little: %+v", b)
	}
}

func wantSame(t *testing.T, what string, i int, a, b api.Spec, want bool) {
	t.Helper()
	if Same(a, b) != want || Same(b, a) != want {
		t.Errorf("%s %d: %+v and %+v: want %v", what, i, a, b, want)
	}
}

func TestSame(t *testing.T) {
	wantSame(t, "itself", 0, whole(), whole(), true)
	wantSame(t, "bare", 0, whole(), wholeBare(), true)
	wantSame(t, "nothing", 0, api.Spec{}, api.Spec{}, true)
	wantSame(t, "something", 0, api.Spec{}, whole(), false)
	for i, move := range moves() {
		s := whole()
		move(&s)
		wantSame(t, "place", i, s, whole(), true)
	}
	for i, change := range changes() {
		s := whole()
		change(&s)
		wantSame(t, "change", i, s, whole(), false)
		for j, other := range changes() {
			o := whole()
			other(&o)
			wantSame(t, "changes", 1000*i+j, s, o, equal(Bare(s), Bare(o)))
		}
	}
}

func TestEmptyListsAreNone(t *testing.T) {
	some := api.Spec{
		Modes: []api.Mode{}, Defs: []api.Def{{Name: "d", Expr: api.Expr{Op: api.OpEmpty, Args: []api.Expr{}}}},
		Rules: []api.Rule{{Modes: []api.Use{}, Head: api.Expr{Op: api.OpEmpty, Args: []api.Expr{}}, Trail: api.Expr{Args: []api.Expr{}}, Label: "x", Acts: []api.Act{}}},
	}
	none := api.Spec{Defs: []api.Def{{Name: "d", Expr: empty(0)}}, Rules: []api.Rule{{Head: empty(0), Label: "x"}}}
	wantSame(t, "empty lists", 0, some, none, true)
	wantSame(t, "empty lists", 1, api.Spec{Modes: []api.Mode{}, Defs: []api.Def{}, Rules: []api.Rule{}}, api.Spec{}, true)
	wantPrint(t, some, "let d = ()\nrule () => x\n")
	if Check(some) != nil || !equal(Bare(some), none) {
		t.Errorf("%+v: %v", Bare(some), Check(some))
	}
}

// P5.6

// overwrite writes over all that a file's lists hold.
func overwrite(s api.Spec) {
	for i := range s.Modes {
		s.Modes[i] = api.Mode{Name: "gone", At: -1}
	}
	for i := range s.Defs {
		overwriteExpr(s.Defs[i].Expr)
		s.Defs[i] = api.Def{Name: "gone", At: -1}
	}
	for i, u := range s.Rules {
		for j := range u.Modes {
			u.Modes[j] = api.Use{Name: "gone", At: -1}
		}
		for j := range u.Acts {
			u.Acts[j] = api.Act{Do: -1}
		}
		overwriteExpr(u.Head)
		overwriteExpr(u.Trail)
		s.Rules[i] = api.Rule{Label: "gone"}
	}
}

func overwriteExpr(e api.Expr) {
	for i := range e.Args {
		overwriteExpr(e.Args[i])
		e.Args[i] = api.Expr{Op: -1, Text: "gone"}
	}
}

func TestAnswersAreOnesOwn(t *testing.T) {
	const s = "mode a\nown b\nlet d = [x] (\"y\" | {d})*\nrule <a,b> () [z] / {d}+ => l, push b, pop\nrule <*> () => m\n"
	first, err := Parse(s)
	if err != nil {
		t.Fatal(err)
	}
	kept := plain(first)
	second, _ := Parse(s)
	bare := Bare(first)
	overwrite(first)
	if third, _ := Parse(s); !equal(second, kept) || !equal(third, kept) || !equal(bare, Bare(kept)) {
		t.Errorf("written over: %+v, %+v, %+v; want %+v", second, third, bare, kept)
	}
	overwrite(bare)
	if b := Bare(second); !equal(second, kept) || !equal(b, Bare(kept)) {
		t.Errorf("written over: %+v, %+v; want %+v", second, b, kept)
	}
}

// No two lists of an answer share memory: not behind their ends either.
func TestListsOfAnAnswerAreApart(t *testing.T) {
	s, err := Parse("mode a b c\nlet d = [x] [y] [z] (\"y\" | {d} | ())*\nlet e = () | () | ()\nrule <a,b,c> () [z] [z] / {d}+ => l, push b, pop, pop\nrule <c,b,a> () => m, pop, pop, pop\n")
	if err != nil {
		t.Fatal(err)
	}
	for _, x := range []api.Spec{s, Bare(s)} {
		kept := plain(x)
		grow(x)
		if !equal(x, kept) {
			t.Errorf("grown: %+v, want %+v", x, kept)
		}
	}
	// Two of the same argument are two.
	arg := []api.Expr{set(1, "a"), set(2, "b")}
	one := api.Expr{Op: api.OpCat, Args: arg}
	b := Bare(api.Spec{Defs: []api.Def{{Name: "d", Expr: one}, {Name: "d", Expr: alt(one, one)}}})
	kept := plain(b)
	b.Defs[0].Expr.Args[0].Text = "gone"
	b.Defs[1].Expr.Args[0].Args[1].Text = "gone"
	kept.Defs[0].Expr.Args[0].Text = "gone"
	kept.Defs[1].Expr.Args[0].Args[1].Text = "gone"
	if !equal(b, kept) || !reflect.DeepEqual(arg, []api.Expr{set(1, "a"), set(2, "b")}) {
		t.Errorf("%+v, want %+v; %+v", b, kept, arg)
	}
}

// grow puts something behind each list of a file, which the file does not see.
func grow(s api.Spec) {
	_ = append(s.Modes, api.Mode{Name: "gone"})
	_ = append(s.Defs, api.Def{Name: "gone"})
	_ = append(s.Rules, api.Rule{Label: "gone"})
	for _, d := range s.Defs {
		growExpr(d.Expr)
	}
	for _, u := range s.Rules {
		_ = append(u.Modes, api.Use{Name: "gone"})
		_ = append(u.Acts, api.Act{Do: -1})
		growExpr(u.Head)
		growExpr(u.Trail)
	}
}

func growExpr(e api.Expr) {
	_ = append(e.Args, api.Expr{Op: -1})
	for _, arg := range e.Args {
		growExpr(arg)
	}
}

func TestWhatIsHandedInStays(t *testing.T) {
	// Each list is a piece of a longer one: what lies behind it is not to be read, or written.
	long := whole()
	long.Modes = append(long.Modes, api.Mode{Name: "1"})
	long.Defs = append(long.Defs, api.Def{Name: "1"})
	long.Rules = append(long.Rules, api.Rule{Label: "1"})
	long.Rules[1].Modes = append(long.Rules[1].Modes, api.Use{Name: "1"})
	long.Rules[0].Acts = append(long.Rules[0].Acts, api.Act{Do: 7})
	long.Defs[0].Expr.Args = append(long.Defs[0].Expr.Args, api.Expr{Op: 99})
	kept := plain(long)
	s := long
	s.Modes, s.Defs, s.Rules = s.Modes[:2], s.Defs[:2], s.Rules[:2]
	s.Rules[1].Modes = s.Rules[1].Modes[:2]
	s.Rules[0].Acts = s.Rules[0].Acts[:2]
	s.Defs[0].Expr.Args = s.Defs[0].Expr.Args[:2]
	if _, err := Print(s); err != nil || Check(s) != nil || !Same(s, whole()) || !Same(whole(), s) || !equal(Bare(s), wholeBare()) {
		t.Errorf("pieces of lists: %+v, %v, %v", s, err, Check(s))
	}
	long.Rules[1].Modes = long.Rules[1].Modes[:3]
	long.Rules[0].Acts = long.Rules[0].Acts[:3]
	long.Defs[0].Expr.Args = long.Defs[0].Expr.Args[:3]
	if !equal(long, kept) {
		t.Errorf("changed: %+v, want %+v", long, kept)
	}
}

func TestAnyFileEnds(t *testing.T) {
	for _, e := range []api.Expr{{}, {Op: api.OpRepeat}, {Op: api.OpCat}, {Op: api.OpAlt, Args: make([]api.Expr, 3)}, {Op: 1 << 62, Min: -1 << 63, Max: 1<<63 - 1, Text: "\xff", Args: make([]api.Expr, 1)}} {
		for _, s := range append(inAll(e), ruleOf(api.Rule{Head: e}), ruleOf(api.Rule{Trail: e})) {
			Check(s)
			Print(s)
			if !Same(s, Bare(s)) || !equal(Bare(s), Bare(Bare(s))) {
				t.Errorf("%+v: %+v", s, Bare(s))
			}
		}
	}
	deep := defOf(nested(empty(5), 1<<16-1))
	other := defOf(nested(empty(7), 1<<16-1))
	last := defOf(nested(ref(7, "a"), 1<<16-1))
	if !Same(deep, other) || Same(deep, last) || !Same(Bare(deep), other) {
		t.Error("what is deep in one another")
	}
	wide := defOf(cat(repeated(empty(5), 1<<17)...))
	if !Same(wide, Bare(wide)) || Check(wide) != nil {
		t.Error("what has many arguments")
	}
}

func TestAnyTextEnds(t *testing.T) {
	for b := range 256 {
		one := string([]byte{byte(b)})
		for _, ahead := range []string{"", "let d = ", "let d = ()", "rule ", "mode a", "rule () => x,"} {
			for _, n := range []int{1, 2, 3, 50, api.MaxFile / 8} {
				s, err := Parse(ahead + many(one, n))
				if err != nil && !equal(s, api.Spec{}) {
					t.Errorf("%q and %d times %q: %+v beside %v", ahead, n, one, s, err)
				}
			}
		}
	}
}
