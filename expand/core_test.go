package expand_test

import (
	"maps"
	"slices"
	"strings"
	"testing"

	"bolter/api"
	"bolter/expand"
)

// P7.1, P7.4

const someDefs = "let e = ()\nlet x = \"x\"\nlet xy = \"xy\"\nlet n = [z]?\nlet p = {x}+\nlet o = \"x\"|{e}\n"

// opened is so many times a core: each one opens the way to the next.
func opened(core string, n int) string {
	return strings.Repeat("("+core+" ", n-1) + core + strings.Repeat("?)", n-1) + "?"
}

func many(core string, n int) string { return strings.TrimSpace(strings.Repeat(core+" ", n)) }

func TestCores(t *testing.T) {
	for text, want := range map[string]string{
		// the document's
		`"ab"`: "(a b)", `"a"{0}`: "()", `"a"{3}`: "(a a a)", `"a"{2,}`: "(a a+)", `"a"{1,3}`: "(a (a a?)?)",
		`"a"?+`: "a*", `"a"*?`: "a*", `"a"+{1,}`: "a+", `() "a" ()`: "a", `()|"a"|()`: "(()|a)", `()|"a"*`: "a*",
		`("a"|())?`: "(a|())", `(()|()){5}`: "()",
		// sets, texts
		`()`: "()", `""`: "()", `[]`: "[]", `[a-c]`: "[a-c]", `[^]`: `[\x00-\xff]`, `"a"`: "a", `"\x00"`: `[\x00]`,
		`"\xff\x80"`: `([\xff] [\x80])`, `"aab"`: "(a a b)",
		// definitions
		"{e}": "()", "{x}": "x", "{xy}": "(x y)", "{n}": "z?", "{p}": "x+", "{o}": "(x|())",
		"{xy}{xy}": "((x y) (x y))", "{e}{x}{e}": "x", "{e}{e}": "()", "{e}|{e}|{x}": "(()|x)", "{e}|{n}": "z?", "{n}?": "z?", "{p}*": "x*", "{o}{2}": "((x|()) (x|()))",
		// cats
		`"a" "b"`: "(a b)", `("a" "b") "c"`: "((a b) c)", `"a" ("b" "c")`: "(a (b c))", `"ab" "c"`: "((a b) c)", `() () ()`: "()",
		`() "ab"`: "(a b)", `"a" () "b"`: "(a b)", `"a"{0} "b"`: "b", `"a"? ()`: "a?", `"a"? "b"?`: "(a? b?)", `[] "a"`: "([] a)",
		// alts
		`"a"|"b"`: "(a|b)", `("a"|"b")|"c"`: "((a|b)|c)", `"a"|"a"`: "(a|a)", `()|()`: "()", `"a"|()`: "(a|())", `()|"a"`: "(()|a)",
		`"a"|()|"b"|()|"c"`: "(a|()|b|c)", `()|()|"a"|()`: "(()|a)", `"a"?|()`: "a?", `()|"a"?`: "a?", `()|"a"|"b"*|()`: "(a|b*)",
		`"a"|()|"b"*`: "(a|b*)", `"b"*|"a"|()`: "(b*|a)", `"a"?|"b"?`: "(a?|b?)", `"a"?|"b"?|()`: "(a?|b?)", `()|"a"{0}`: "()",
		`()|"a"? "b"?`: "(a? b?)", `()|"a"? "b"`: "(()|(a? b))", `()|("a"|"b"?)`: "(a|b?)", `()|("a"|())`: "(a|())", `()|("a"|())+`: "(a|())+", `()|"a"+`: "(()|a+)",
		`"a"|[]|()`: "(a|[]|())", `(()|"a")|(()|"b")`: "((()|a)|(()|b))",
		// counts: 0 to 0, of what is empty, 1 to 1
		`"a"{0,0}`: "()", `"abc"{0}`: "()", `(){0}`: "()", `()*`: "()", `()+`: "()", `()?`: "()", `(){7}`: "()", `(){2,}`: "()", `(){0,3}`: "()", `(){2,3}`: "()", `"a"{0}+`: "()",
		`"a"{1}`: "a", `"a"{1,1}`: "a", `"ab"{1}`: "(a b)", `"a"*{1}`: "a*",
		// again
		`"a"*`: "a*", `"a"+`: "a+", `"a"?`: "a?", `"a"{0,}`: "a*", `"a"{1,}`: "a+", `"a"{0,1}`: "a?", `"ab"*`: "(a b)*", `[]*`: "[]*",
		`"a"**`: "a*", `"a"*+`: "a*", `"a"+*`: "a*", `"a"++`: "a+", `"a"+?`: "a*", `"a"?*`: "a*", `"a"??`: "a?", `"a"?+?`: "a*", `"a"+?+`: "a*",
		`("a"|())*`: "(a|())*", `("a"|())+`: "(a|())+", `("a"|())+?`: "(a|())+", `("a"|())+*`: "(a|())*", `("a"? "b"?)?`: "(a? b?)", `("a"? "b")?`: "(a? b)?",
		// n to n
		`"a"{2}`: "(a a)", `"ab"{2}`: "((a b) (a b))", `"a"{2}{2}`: "((a a) (a a))", `"a"*{2}`: "(a* a*)", `"a"{2}*`: "(a a)*", `"a"{100}`: "(" + many("a", 100) + ")",
		// n to -1
		`"a"{3,}`: "(a a a+)", `"a"?{2,}`: "(a? a*)", `"a"+{2,}`: "(a+ a+)", `"a"*{2,}`: "(a* a*)", `"ab"{2,}`: "((a b) (a b)+)", `"a"{100,}`: "(" + many("a", 99) + " a+)", `("a"|()){2,}`: "((a|()) (a|())+)",
		// 0 to m
		`"a"{0,2}`: "(a a?)?", `"a"{0,3}`: "(a (a a?)?)?", `"a"?{0,2}`: "(a? a?)", `"a"+{0,2}`: "(a+ a*)?", `"a"*{0,3}`: "(a* (a* a*))", `("a"|()){0,3}`: "((a|()) ((a|()) (a|())))", `"a"{0,100}`: opened("a", 100),
		// n to m
		`"a"{1,2}`: "(a a?)", `"a"{2,3}`: "(a a a?)", `"a"{2,4}`: "(a a (a a?)?)", `"a"?{1,2}`: "(a? a?)", `"a"?{1,3}`: "(a? (a? a?))", `"a"+{1,2}`: "(a+ a*)", `"ab"{1,2}`: "((a b) (a b)?)", `"a"{60,100}`: "(" + many("a", 60) + " " + opened("a", 40) + ")",
	} {
		s := parsed(t, someDefs+"rule "+text+" => t")
		if got := shown(coreOf(t, s)); got != want {
			t.Errorf("%s: %s, want %s", text, got, want)
		}
	}
}

// A file's rules each have their core, in their order, with their trails.
func TestCoresOfRules(t *testing.T) {
	l, err := expand.Expand(parsed(t, someDefs+"mode m\nown n\nrule <m> {xy} / \"b\"? => t, pop\nrule () => u\nrule \"a\" / () => v\nrule <*> () / \"x\"{0} \"ab\"{1,2} => v"))
	want := []api.Core{
		{Head: cat(set("x"), set("y")), HasTrail: true, Trail: times(set("b"), 0, 1)},
		{Head: empty()},
		{Head: set("a"), HasTrail: true, Trail: empty()},
		{Head: empty(), HasTrail: true, Trail: cat(cat(set("a"), set("b")), times(cat(set("a"), set("b")), 0, 1))},
	}
	if err != nil || !equal(l, want) {
		t.Errorf("%+v, %v", l, err)
	}
	for _, text := range []string{"", someDefs, "mode m"} {
		if l, err := expand.Expand(parsed(t, text)); len(l) > 0 || err != nil {
			t.Errorf("%q: %+v, %v", text, l, err)
		}
	}
}

// Definitions stand in any order, and each use is put in.
func TestDefinitionsInAnyOrder(t *testing.T) {
	s := parsed(t, "let a = {b} {c}\nlet c = {d}?\nlet b = {c} | {d}\nlet d = \"d\"\nrule {a} => t\nrule {b} {a} => u")
	l, err := expand.Expand(s)
	if err != nil || len(l) != 2 || shown(l[0].Head) != "((d?|d) d?)" || shown(l[1].Head) != "((d?|d) ((d?|d) d?))" {
		t.Errorf("%+v, %v", l, err)
	}
}

func counts() [][2]int {
	return [][2]int{{0, 0}, {1, 1}, {0, -1}, {1, -1}, {0, 1}, {2, 2}, {3, 3}, {2, -1}, {3, -1}, {0, 2}, {0, 3}, {1, 2}, {1, 3}, {2, 3}, {2, 4}}
}

func countedBy(l []api.Expr) []api.Expr {
	var out []api.Expr
	for _, e := range l {
		for _, c := range counts() {
			out = append(out, times(e, c[0], c[1]))
		}
	}
	return out
}

func pairs(l, m []api.Expr) []api.Expr {
	var out []api.Expr
	for _, e := range l {
		for _, f := range m {
			out = append(out, cat(e, f), alt(e, f))
		}
	}
	return out
}

// small tells all expressions of a few parts.
func small() []api.Expr {
	leaves := []api.Expr{empty(), set("a"), set(""), word("ab"), ref("n"), ref("e")}
	next := slices.Concat(countedBy(leaves), pairs(leaves, leaves))
	out := slices.Concat(leaves, next, countedBy(next), pairs(leaves, next), pairs(next, leaves))
	for _, e := range pairs(leaves, leaves) {
		for _, f := range leaves {
			out = append(out, api.Expr{Op: e.Op, Args: []api.Expr{e.Args[0], e.Args[1], f}})
		}
	}
	return out
}

func smallDefs() []api.Def {
	return []api.Def{def("n", times(set("b"), 0, 1)), def("e", empty())}
}

// All that is small, against the second reading; and P7.5: its words.
func TestSmallExpressions(t *testing.T) {
	m := meaningsOf(smallDefs())
	for _, e := range small() {
		got, want := coreOf(t, file(smallDefs(), e)), m.core(e)
		if !same(got, want) {
			t.Fatalf("%+v: %s, want %s", e, shown(got), shown(want))
		}
		if !maps.Equal(m.words(e, 4), m.words(got, 4)) {
			t.Fatalf("%+v: %s: other words", e, shown(got))
		}
	}
}

// fits is whether a file can be expanded.
func fits(sizes []int) bool {
	n := 0
	for _, size := range sizes {
		n += size
	}
	return n <= api.MaxPositions
}

// P7.1, P7.5: what is made by chance, too.
func TestFilesByChance(t *testing.T) {
	c := chance(7)
	for range 6000 {
		s := c.file(4, 5)
		sizes, err := expand.Sizes(s)
		if err != nil {
			t.Fatalf("%+v: %v", s, err)
		}
		if !fits(sizes) {
			wantFault(t, s, s, api.Fault{Code: api.CodeTooManyPositions})
			continue
		}
		m := meaningsOf(s.Defs)
		var want []api.Core
		for _, u := range s.Rules {
			w := api.Core{Head: m.core(u.Head), HasTrail: u.HasTrail}
			if u.HasTrail {
				w.Trail = m.core(u.Trail)
			}
			want = append(want, w)
		}
		l, err := expand.Expand(s)
		if err != nil || !equal(l, want) {
			t.Fatalf("%+v: %+v, %v, want %+v", s, l, err, want)
		}
		for i, u := range s.Rules {
			if !maps.Equal(m.words(u.Head, 3), m.words(l[i].Head, 3)) || !maps.Equal(m.words(u.Trail, 3), m.words(l[i].Trail, 3)) {
				t.Fatalf("%+v: %+v: other words", u, l[i])
			}
			wantProper(t, l[i].Head)
			if n := positionsOf(l[i]); n != sizes[i] {
				t.Fatalf("%+v: %d positions, want %d", u, n, sizes[i])
			}
		}
	}
}

func positionsOf(c api.Core) int {
	return expand.Size(c.Head) + expand.Size(c.Trail)
}

// wantProper asks of a core what P7.5 says of it.
func wantProper(t *testing.T, core api.Expr) {
	t.Helper()
	size := countOf(core, api.OpSet)
	if !expand.Check(core) || expand.Size(core) != size {
		t.Fatalf("%.300s: %v, %d", shown(core), expand.Check(core), expand.Size(core))
	}
	if n := countOf(core); n > 10*max(size, 1) {
		t.Errorf("%.300s: %d expressions", shown(core), n)
	}
	each(core, func(e api.Expr) {
		if countOf(e, api.OpSet) == 0 && e.Op != api.OpEmpty {
			t.Errorf("%.300s: no positions: %s", shown(core), shown(e))
		}
		for _, a := range e.Args {
			if e.Op == api.OpRepeat && a.Op == api.OpRepeat || e.Op != api.OpAlt && a.Op == api.OpEmpty {
				t.Errorf("%.300s: %s", shown(core), shown(e))
			}
			if a.Op == api.OpEmpty && slices.ContainsFunc(e.Args, func(b api.Expr) bool { return b.Op != api.OpEmpty && nullable(b) }) {
				t.Errorf("%.300s: beside what is nullable: %s", shown(core), shown(e))
			}
		}
	})
}

// P7.5: definitions that bring nothing stay small, however deep they stand in one another.
func TestWhatBringsNothing(t *testing.T) {
	for _, wrap := range []func(e api.Expr) api.Expr{
		func(e api.Expr) api.Expr { return cat(empty(), e, empty()) },
		func(e api.Expr) api.Expr { return alt(empty(), e, empty()) },
		func(e api.Expr) api.Expr { return times(times(e, 0, -1), 1, -1) },
		func(e api.Expr) api.Expr { return times(alt(e, empty()), 0, 1) },
		func(e api.Expr) api.Expr { return times(alt(times(e, 1, -1), empty()), 1, -1) },
		func(e api.Expr) api.Expr { return cat(times(set("b"), 0, 0), times(e, 1, 1)) },
	} {
		e := set("a")
		for range 400 {
			e = wrap(e)
		}
		var defs []api.Def
		for i := range api.MaxDefs {
			defs = append(defs, def(defName(i), e))
			e = wrap(ref(defName(i)))
		}
		core := coreOf(t, file(defs, e))
		wantProper(t, core)
		if expand.Size(core) != 1 || countOf(core) > 5 {
			t.Errorf("%.300s", shown(core))
		}
	}
}

// P7.5: the greatest and deepest that can come of MaxPositions positions.
func TestGreatCores(t *testing.T) {
	wrap := func(e api.Expr) api.Expr { return times(alt(times(e, 1, -1), empty()), 1, -1) }
	e := wrap(set("a"))
	var defs []api.Def
	for i := range api.MaxPositions - 1 {
		e = wrap(cat(e, set("a")))
		if i%250 == 0 {
			defs = append(defs, def(defName(i), e))
			e = ref(defName(i))
		}
	}
	core := coreOf(t, file(defs, e))
	wantProper(t, core)
	if expand.Size(core) != 1000 || depth(core) != 4000 || countOf(core) != 5999 {
		t.Errorf("%d positions, %d deep, %d expressions", expand.Size(core), depth(core), countOf(core))
	}
	for _, text := range []string{
		`rule "a"{0,100}{0,10} => t`, `rule "a"{0,10}{0,100} => t`, `rule "a"+{10,100}{10} => t`, `rule ([]|()){0,100}{10,} => t`,
		"let a = \"a\"{0,10}\nlet b = ({a} | ()){1,10}\nrule {b}{5,10} => t",
	} {
		core := coreOf(t, parsed(t, text))
		wantProper(t, core)
		if expand.Size(core) != 1000 {
			t.Errorf("%s: %d positions", text, expand.Size(core))
		}
	}
}

// T3 on the way: what is written twice is as good as what is named twice.
func TestNamedOrWritten(t *testing.T) {
	c := chance(3)
	for range 500 {
		e := c.expr(3, 0, 3)
		named := file([]api.Def{def("d", e)}, cat(ref("d"), set("x"), times(ref("d"), 1, 3)))
		written := file(nil, cat(e, set("x"), times(e, 1, 3)))
		if sizes, err := expand.Sizes(named); err != nil || !fits(sizes) {
			continue
		}
		if a, b := coreOf(t, named), coreOf(t, written); !same(a, b) {
			t.Fatalf("%s: %s, %s", short(e), shown(a), shown(b))
		}
	}
}
