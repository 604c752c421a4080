package spec

import (
	"testing"

	"bolter/api"
	"bolter/fault"
)

// P5.1: the files

func TestTheFileOfTheChapter(t *testing.T) {
	wantFile(t, "mode a b\nown c\nlet d = [0-9]\nrule <a,c> {d}+ \"x\"? / () => num, push b, pop\n", api.Spec{
		Modes: []api.Mode{{Name: "a", At: 5}, {Name: "b", At: 7}, {Name: "c", Own: true, At: 13}},
		Defs:  []api.Def{{Name: "d", At: 19, Expr: set(23, "0123456789")}},
		Rules: []api.Rule{{
			At:       29,
			Modes:    []api.Use{{Name: "a", At: 35}, {Name: "c", At: 37}},
			Head:     cat(times(43, 1, -1, ref(40, "d")), times(48, 0, 1, text(45, "x"))),
			HasTrail: true,
			Trail:    empty(52),
			Label:    "num",
			Acts:     []api.Act{{Do: api.ActPush, Mode: api.Use{Name: "b", At: 68}}, {Do: api.ActPop}},
		}},
	})
	wantFile(t, "rule \"a\"{2}{3,}* => x", ruleOf(api.Rule{
		Head:  times(15, 0, -1, times(11, 3, -1, times(8, 2, 2, text(5, "a")))),
		Label: "x",
	}))
}

func TestLines(t *testing.T) {
	for _, s := range []string{"", "\n", "\n\n\n", " \t\r\n", "# none", "# mode a\n\n # \n"} {
		wantFile(t, s, api.Spec{})
	}
	a := api.Spec{Modes: []api.Mode{{Name: "a", At: 5}}}
	for _, s := range []string{"mode a", "mode a\n", "mode a\r\n\n", "mode a # b\n", "mode a#"} {
		wantFile(t, s, a)
	}
	wantFile(t, "\n# \nmode\ta\n\n own b", api.Spec{Modes: []api.Mode{{Name: "a", At: 9}, {Name: "b", Own: true, At: 17}}})
}

func TestModes(t *testing.T) {
	wantFile(t, "own a\nmode b c\nown d e\nmode a", api.Spec{Modes: []api.Mode{
		{Name: "a", Own: true, At: 4}, {Name: "b", At: 11}, {Name: "c", At: 13}, {Name: "d", Own: true, At: 19}, {Name: "e", Own: true, At: 21}, {Name: "a", At: 28}}})
}

func TestRules(t *testing.T) {
	at := func(n int) api.Use { return api.Use{Name: "m", At: n} }
	for s, u := range map[string]api.Rule{
		"rule () => x":              {Head: empty(5), Label: "x"},
		"rule <*>() => x":           {Head: empty(8), Label: "x", All: true},
		"rule <m> () => x":          {Head: empty(9), Label: "x", Modes: []api.Use{at(6)}},
		"rule <m,m , m>[]=>x":       {Head: set(14, ""), Label: "x", Modes: []api.Use{at(6), at(8), at(12)}},
		"rule [a] / [b] => x":       {Head: set(5, "a"), HasTrail: true, Trail: set(11, "b"), Label: "x"},
		"rule [a]|[b]/[c]|[d] => x": {Head: alt(set(5, "a"), set(9, "b")), HasTrail: true, Trail: alt(set(13, "c"), set(17, "d")), Label: "x"},
		"rule \"/\" => x":           {Head: text(5, "/"), Label: "x"},
		"rule () => x, begin m":     {Head: empty(5), Label: "x", Acts: []api.Act{{Do: api.ActBegin, Mode: at(20)}}},
		"rule () => x,push m":       {Head: empty(5), Label: "x", Acts: []api.Act{{Do: api.ActPush, Mode: at(18)}}},
		"rule () => x,pop , pop":    {Head: empty(5), Label: "x", Acts: []api.Act{{Do: api.ActPop}, {Do: api.ActPop}}},
		"rule ()=>x,push m,begin m": {Head: empty(5), Label: "x", Acts: []api.Act{{Do: api.ActPush, Mode: at(16)}, {Do: api.ActBegin, Mode: at(24)}}},
		"rule () => x" + many(",pop", 8): {Head: empty(5), Label: "x", Acts: []api.Act{
			{Do: api.ActPop}, {Do: api.ActPop}, {Do: api.ActPop}, {Do: api.ActPop}, {Do: api.ActPop}, {Do: api.ActPop}, {Do: api.ActPop}, {Do: api.ActPop}}},
	} {
		wantFile(t, s, ruleOf(u))
	}
	wantFile(t, "let b = ()\nrule () => x\nlet a = [a]\n rule [b] => x\nmode m", api.Spec{
		Modes: []api.Mode{{Name: "m", At: 56}},
		Defs:  []api.Def{{Name: "b", At: 4, Expr: empty(8)}, {Name: "a", At: 28, Expr: set(32, "a")}},
		Rules: []api.Rule{{At: 11, Head: empty(16), Label: "x"}, {At: 37, Head: set(42, "b"), Label: "x"}},
	})
}

func TestWordsOfTheFormAsNames(t *testing.T) {
	use := func(name string, at int) api.Use { return api.Use{Name: name, At: at} }
	wantFile(t, "mode mode own let\nown rule pop", api.Spec{Modes: []api.Mode{
		{Name: "mode", At: 5}, {Name: "own", At: 10}, {Name: "let", At: 14}, {Name: "rule", Own: true, At: 22}, {Name: "pop", Own: true, At: 27}}})
	wantFile(t, "let let = {let} {rule}", api.Spec{Defs: []api.Def{{Name: "let", At: 4, Expr: cat(ref(10, "let"), ref(16, "rule"))}}})
	wantFile(t, "rule <rule,begin> {pop} => push, begin begin, push push, pop", ruleOf(api.Rule{
		Modes: []api.Use{use("rule", 6), use("begin", 11)}, Head: ref(18, "pop"), Label: "push",
		Acts: []api.Act{{Do: api.ActBegin, Mode: use("begin", 39)}, {Do: api.ActPush, Mode: use("push", 51)}, {Do: api.ActPop}}}))
	// No name is one of the words by its beginning, or in other letters.
	for _, s := range []string{"modes a", "Mode a", "own_ a", "_let a = ()", "rule1 () => x", "begin a", "pop", "push a"} {
		wantRefused(t, s, api.CodeSyntax, 0)
	}
	for _, s := range []string{"mode a", "own", "let", "rule", "Pop", "pop_", "pops", "begins x"} {
		wantRefused(t, "rule () => x, "+s, api.CodeSyntax, 14)
	}
}

func TestAtoms(t *testing.T) {
	wantExpr(t, `"ab"`, text(8, "ab"))
	wantExpr(t, `"\n\x41"`, text(8, "\nA"))
	wantExpr(t, `"{2}"`, text(8, "{2}"))
	wantExpr(t, `"*"`, text(8, "*"))
	wantExpr(t, `""`, empty(8))
	wantExpr(t, `()`, empty(8))
	wantExpr(t, `( )`, empty(8))
	wantExpr(t, `[a-c]`, set(8, "abc"))
	wantExpr(t, `[]`, set(8, ""))
	wantExpr(t, `.`, api.Expr{Op: api.OpSet, At: 8, Set: api.Set{^uint64(1 << 10), ^uint64(0), ^uint64(0), ^uint64(0)}})
	wantExpr(t, `{a}`, ref(8, "a"))
	wantExpr(t, `{ d }`, ref(8, "d"))
}

func TestCatsAndAlts(t *testing.T) {
	a, b := set(8, "a"), set(11, "b")
	wantExpr(t, `[a][b]`, cat(a, b))
	wantExpr(t, `[a][b]"c"{d}()`, cat(a, b, text(14, "c"), ref(17, "d"), empty(20)))
	wantExpr(t, `[a]|[b]`, alt(a, set(12, "b")))
	wantExpr(t, `[a][b]|[c]|[d][e]`, alt(cat(a, b), set(15, "c"), cat(set(19, "d"), set(22, "e"))))
	wantExpr(t, `""""`, cat(empty(8), empty(10)))
	wantExpr(t, `{a}{b}`, cat(ref(8, "a"), ref(11, "b")))
}

func TestParentheses(t *testing.T) {
	wantExpr(t, `([a])`, set(9, "a"))
	wantExpr(t, `((([a])))`, set(11, "a"))
	wantExpr(t, `(())`, empty(9))
	wantExpr(t, `("")`, empty(9))
	wantExpr(t, `([a][b])[c]`, cat(cat(set(9, "a"), set(12, "b")), set(16, "c")))
	wantExpr(t, `[c]([a][b])`, cat(set(8, "c"), cat(set(12, "a"), set(15, "b"))))
	wantExpr(t, `([a]|[b])|[c]`, alt(alt(set(9, "a"), set(13, "b")), set(18, "c")))
	wantExpr(t, `[a]([b]|[c])`, cat(set(8, "a"), alt(set(12, "b"), set(16, "c"))))
	wantExpr(t, `([a][b])|[c]`, alt(cat(set(9, "a"), set(12, "b")), set(17, "c")))
	wantExpr(t, `([a]*)`, times(12, 0, -1, set(9, "a")))
	wantExpr(t, `([a]*)[b]`, cat(times(12, 0, -1, set(9, "a")), set(14, "b")))
	wantExpr(t, `([a]|[b])*`, times(17, 0, -1, alt(set(9, "a"), set(13, "b"))))
	wantExpr(t, `([a]*)+`, times(14, 1, -1, times(12, 0, -1, set(9, "a"))))
}

func TestCounts(t *testing.T) {
	a := set(8, "a")
	for s, c := range map[string][2]int{
		"*": {0, -1}, "+": {1, -1}, "?": {0, 1}, "{0}": {0, 0}, "{1}": {1, 1}, "{7}": {7, 7}, "{007}": {7, 7},
		"{0,}": {0, -1}, "{1,}": {1, -1}, "{3,}": {3, -1}, "{0,1}": {0, 1}, "{0,0}": {0, 0}, "{2,5}": {2, 5}, "{5,5}": {5, 5},
		"{101}": {101, 101}, "{ 2 , 3 }": {2, 3}, "{ 2 }": {2, 2}, "{ 2,}": {2, -1},
		"{99999999999}": {1 << 30, 1 << 30}, "{99999999999,1073741824}": {1 << 30, 1 << 30}, "{0,99999999999}": {0, 1 << 30},
	} {
		wantExpr(t, "[a]"+s, times(11, c[0], c[1], a))
		wantExpr(t, "[a]"+s+"+", times(11+len(s), 1, -1, times(11, c[0], c[1], a)))
		wantExpr(t, "[a]"+s+"[b]", cat(times(11, c[0], c[1], a), set(11+len(s), "b")))
		wantExpr(t, "[a]"+s+"{b}", cat(times(11, c[0], c[1], a), ref(11+len(s), "b")))
	}
	wantExpr(t, `[a][b]*`, cat(a, times(14, 0, -1, set(11, "b"))))
	wantExpr(t, `[a]|[b]*`, alt(a, times(15, 0, -1, set(12, "b"))))
	wantExpr(t, `()*`, times(10, 0, -1, empty(8)))
	wantExpr(t, `{a}{2}{b}`, cat(times(11, 2, 2, ref(8, "a")), ref(14, "b")))
	wantExpr(t, `[a] * ? [b]`, cat(times(14, 0, 1, times(12, 0, -1, a)), set(16, "b")))
}

// P5.1: what is refused

func TestFaultsOfTheChapter(t *testing.T) {
	for s, at := range map[string]int{
		`let = "a"`: 4, `rule "a"`: 8, `rule => x`: 5, `foo`: 0, `rule "a"{3,2} => x`: 11, `rule ("a" => x`: 10, `rule "a" => x, stop`: 15,
	} {
		wantRefused(t, s, api.CodeSyntax, at)
	}
}

func TestWhatCanNotStand(t *testing.T) {
	for s, at := range map[string]int{
		"(": 0, "=": 0, "12": 0, `"a"`: 0, "[a]": 0, ".": 0, "\nfoo x": 1, "mode a\n\nx": 8, "mode a\n=": 7,
		"mode": 4, "mode ": 5, "own #x": 6, "mode\n": 4, "mode \nmode a": 5, "mode 1": 5, `mode "a"`: 5, "mode a, b": 6, "mode a 1": 7, "own a = b": 6,
		"let": 3, "let\n": 3, "let 1 = ()": 4, "let a": 5, "let a\n= ()": 5, "let a ()": 6, "let a =": 7, "let a = \n()": 8, "let a => ()": 6, "let a == ()": 7,
		"let a = () )": 11, "let a = () =": 11, "let a = () / ()": 11, "let a = () => x": 11, "let a = () ,": 11, "let a = () }": 11, "let a = () b": 11, "let a = () 1": 11, "let a = b": 8, "let a = 1": 8,
		"let a = |()": 8, "let a = ()|": 11, "let a = ()||()": 11, "let a = *": 8, "let a = ()|*": 11, "let a = ()\nlet b": 16,
		"let a = (": 9, "let a = (()": 11, "let a = )": 8, "let a = (|())": 9, "let a = (()|)": 12, "let a = ())": 10, "let a = (*)": 9, "let a = ()(": 11, "let a = (() => x": 12, "let a = (()/())": 11, "let a = (\n())": 9, "let a = (()\n)": 11, "let a = ( # )": 13,
		"let a = {": 9, "let a = {}": 9, "let a = {1}": 9, `let a = {"a"}`: 9, "let a = {a": 10, "let a = {a,}": 10, "let a = {a b}": 11, "let a = {a\n}": 10, "let a = (){": 11, "let a = (){}": 11, "let a = (){,2}": 11, "let a = (){\n2}": 11,
		"let a = (){2": 12, "let a = (){2,": 13, "let a = (){2,3": 14, "let a = (){2 3}": 13, "let a = (){2,,}": 13, "let a = (){2,a}": 13, "let a = (){2,3,}": 14, "let a = (){a}{3,2}": 16, "let a = (){2,1": 13, "let a = (){1,0}": 13, "let a = (){2}{": 14, "let a = (){2,\n3}": 13, "let a = (){2\n": 12,
		"let a = (){99999999999,1073741823}": 23,
		"rule":                               4, "rule\n": 4, "rule x": 5, "rule () x": 8, "rule ()": 7, "rule ()\n=> x": 7, "rule () =>": 10, "rule () =>\nx": 10, "rule () => 1": 11, `rule () => "x"`: 11, "rule () => x y": 13, "rule () => x =": 13, "rule () => x)": 12, "rule () = x": 8, "rule () = > x": 8, "rule () > x": 8,
		"rule <": 6, "rule <>": 6, "rule <> ()": 6, "rule <*": 7, "rule <*,a>": 7, "rule <**>": 7, "rule <a": 7, "rule <a,": 8, "rule <a,>": 8, "rule <a b>": 8, "rule <a,*>": 8, "rule <,a>": 6, "rule <1>": 6, "rule <a> => x": 9, "rule <a>": 8, "rule <a>/": 8, "rule <a><b>": 8, "rule <a\n>": 7, "rule <a => x": 8, "rule () <a> => x": 8,
		"rule / () => x": 5, "rule () / => x": 10, "rule () /": 9, "rule () / () / () => x": 13, "rule () / ()": 12, "rule () | / ()": 10, "rule () / () )": 13,
		"rule () => x,": 13, "rule () => x,\npop": 13, "rule () => x, 1": 14, "rule () => x,,pop": 13, "rule () => x pop": 13, "rule () => x, pop x": 18, "rule () => x, begin": 19, "rule () => x, begin\na": 19, "rule () => x, push": 18, "rule () => x, push 1": 19, "rule () => x, push a b": 21, "rule () => x, begin,": 19, "rule () => x, pop,": 18, "rule () => x, pop pop": 18,
	} {
		wantRefused(t, s, api.CodeSyntax, at)
	}
}

func TestLexErrors(t *testing.T) {
	// Told where nothing ahead is refused, also if something is wanted there, or the text's end would do.
	for s, at := range map[string]int{
		";": 0, "mode a ;": 7, "mode ;": 5, "let a = () ]": 11, "let a = (){;": 11, "let a = ( ;": 10, `rule "`: 6, "rule () => x, ;": 14, "let a = [b-a]": 11, `let a = "\q"`: 9, "mode a\n-": 7, "mode " + many("a", 33): 5, "let a = () \xc3": 11,
		"let a = ()" + many("*", 40) + "{;": 51,
	} {
		wantRefused(t, s, api.CodeSyntax, at)
	}
	wantRefused(t, "let a = "+many("[--", 41), api.CodeDeep, 8+3*40)
	// What is refused ahead of it stands.
	for s, at := range map[string]int{"foo ;": 0, "mode\n;": 4, "let a = ) ;": 8, `mode a "x" [`: 7, "let a = (){2,1;": 13, "mode a\n1" + many("[--", 41): 7} {
		wantRefused(t, s, api.CodeSyntax, at)
	}
	wantRefused(t, "let a = "+many("(", 41)+many("[--", 41), api.CodeDeep, 48)
	wantRefused(t, "mode"+many(" m", 17)+" ;", api.CodeMany, 37)
}

func TestLongFiles(t *testing.T) {
	mode := api.Spec{Modes: []api.Mode{{Name: "a", At: 5}}}
	wantFile(t, "mode a"+many(" ", api.MaxFile-6), mode)
	wantFile(t, many("\n", api.MaxFile), api.Spec{})
	wantRefused(t, "mode "+many(" ", api.MaxFile-5), api.CodeSyntax, api.MaxFile)
	wantFile(t, many(" ", api.MaxFile-6)+"mode a", api.Spec{Modes: []api.Mode{{Name: "a", At: api.MaxFile - 1}}})
	for _, s := range []string{"mode a" + many(" ", api.MaxFile-5), "foo" + many(" ", api.MaxFile), many(";", api.MaxFile+1), "rule " + many("(", api.MaxFile), many("\n", api.MaxFile+1)} {
		wantRefused(t, s, api.CodeLong, 0)
	}
}

func TestDeepParentheses(t *testing.T) {
	wantExpr(t, many("(", 40)+"[a]"+many(")", 40), set(48, "a"))
	wantExpr(t, many("(", 40)+many(")", 40), empty(47))
	wantRefused(t, "let d = "+many("(", 41)+"[a]"+many(")", 41), api.CodeDeep, 48)
	wantRefused(t, "let d = "+many("(", 41), api.CodeDeep, 48)
	wantRefused(t, "let d = "+many("(", 41)+many(")", 41), api.CodeDeep, 48)
	wantRefused(t, "let d = "+many("(", 40), api.CodeSyntax, 48)
	wantRefused(t, "let d = "+many("(", 40)+"\n(", api.CodeSyntax, 48)
	// As many as are open at a place; not as many as there are.
	s := "let d = " + many("()", 100) + many(many("(", 40)+many(")", 40), 2) + many("(", 39) + "()[a]()" + many(")", 39)
	if _, err := Parse(s); err != nil {
		t.Errorf("%s: %v", s, err)
	}
	wantRefused(t, "let d = "+many("(", 40)+"[a])(([a]", api.CodeDeep, 53)
	wantRefused(t, "let d = "+many("(", 40)+"[a]|()", api.CodeDeep, 52)
	wantRefused(t, "let d = "+many("(", 40)+"[a]*(", api.CodeDeep, 52)
	wantRefused(t, "rule [a]"+many("(", 39)+"[b]"+many(")", 39)+" / "+many("(", 41), api.CodeDeep, 132)
	wantRefused(t, "let d = "+many("(", 40)+") (", api.CodeSyntax, 51)
	wantRefused(t, "let d = "+many("(", 40)+"{(", api.CodeSyntax, 49)
	wantRefused(t, "let d = "+many("(", 40)+"[a]{2(", api.CodeSyntax, 53)
}

func TestManyCounts(t *testing.T) {
	wantExpr(t, "[a]"+many("*", 40), func() api.Expr {
		e := set(8, "a")
		for i := range 40 {
			e = times(11+i, 0, -1, e)
		}
		return e
	}())
	for _, c := range []string{"*", "+", "?", "{", "{ ", "{2", "{2,1}", "{2;"} {
		s := "let d = [a]" + many("*", 40) + c
		switch c {
		case "{":
			wantRefused(t, s, api.CodeSyntax, 52)
		case "{ ":
			wantRefused(t, s, api.CodeSyntax, 53)
		default:
			wantRefused(t, s, api.CodeDeep, 51)
		}
	}
	wantRefused(t, "let d = [a]"+many("{2}", 41), api.CodeDeep, 131)
	wantRefused(t, "let d = [a]"+many("?", 42)+")", api.CodeDeep, 51)
	wantRefused(t, "let d = [a]"+many("?", 40)+"1", api.CodeSyntax, 51)
	wantRefused(t, "let d = [a]"+many("?", 40)+"{b", api.CodeSyntax, 53)
	// Behind one atom: one behind it has its own, and so has what stands in parentheses.
	for _, s := range []string{"[a]" + many("*", 40) + "[b]" + many("*", 40), "([a]" + many("*", 40) + ")" + many("*", 40), "[a]" + many("*", 40) + "{b}" + many("{2}", 40), "[a]" + many("*", 40) + "|()" + many("*", 40)} {
		if _, err := Parse("let d = " + s); err != nil {
			t.Errorf("%s: %v", s, err)
		}
	}
	wantRefused(t, "let d = ([a]"+many("*", 40)+")"+many("*", 41), api.CodeDeep, 93)
}

func TestManyModes(t *testing.T) {
	s, err := Parse("mode" + many(" m", 10) + "\nown" + many(" m", 5) + "\nmode m")
	if err != nil || len(s.Modes) != 16 {
		t.Errorf("16 modes: %v, %v", s, err)
	}
	wantRefused(t, "mode"+many(" m", 17), api.CodeMany, 37)
	wantRefused(t, "mode"+many(" m", 10)+"\nown"+many(" m", 7), api.CodeMany, 41)
	wantRefused(t, "mode"+many(" m", 16)+"\nown m", api.CodeMany, 41)
	wantRefused(t, "mode"+many(" m", 16)+"\nown", api.CodeSyntax, 40)
	wantRefused(t, "mode"+many(" m", 16)+"\nown 1", api.CodeSyntax, 41)
	wantRefused(t, "mode"+many(" m", 16)+" 1", api.CodeSyntax, 37)
	wantRefused(t, "mode"+many(" m", 99), api.CodeMany, 37)
}

func TestManyDefinitions(t *testing.T) {
	all := many("let a = ()\n", 200)
	if s, err := Parse(all); err != nil || len(s.Defs) != 200 {
		t.Errorf("200 definitions: %v", err)
	}
	wantRefused(t, all+"let b = ()", api.CodeMany, 2204)
	wantRefused(t, all+"let b", api.CodeMany, 2204)
	wantRefused(t, all+"let", api.CodeSyntax, 2203)
	wantRefused(t, all+"let = ()", api.CodeSyntax, 2204)
	wantRefused(t, all+"let ;", api.CodeSyntax, 2204)
	wantRefused(t, all+"mode m\nrule () => x\nlet b", api.CodeMany, 2224)
}

func TestManyRules(t *testing.T) {
	all := many("rule () => x\n", 200)
	if s, err := Parse(all); err != nil || len(s.Rules) != 200 {
		t.Errorf("200 rules: %v", err)
	}
	for _, s := range []string{"rule () => x", "rule", "rule rule", "rule ;", "rule (\n"} {
		wantRefused(t, all+s, api.CodeMany, 2600)
	}
	wantRefused(t, all+"rules", api.CodeSyntax, 2600)
	wantRefused(t, all+"let a = ()\nrule", api.CodeMany, 2611)
}

func TestManyActs(t *testing.T) {
	all := "rule () => x" + many(",pop", 8)
	for _, s := range []string{"pop", "pop x", "push", "begin 1", "push ;"} {
		wantRefused(t, all+","+s, api.CodeMany, 45)
	}
	wantRefused(t, all+",", api.CodeSyntax, 45)
	wantRefused(t, all+",stop", api.CodeSyntax, 45)
	wantRefused(t, all+" pop", api.CodeSyntax, 45)
	if _, err := Parse(all + "\n" + all); err != nil {
		t.Errorf("eight of each rule: %v", err)
	}
	wantRefused(t, "rule () => x"+many(",begin m,push m", 5), api.CodeMany, 73)
}

func TestTheFirstFromLeftToRight(t *testing.T) {
	wantRefused(t, "let d = "+many("(", 41)+"\nfoo", api.CodeDeep, 48)
	wantRefused(t, "foo\nlet d = "+many("(", 41), api.CodeSyntax, 0)
	wantRefused(t, "mode"+many(" m", 17)+"\nlet d = "+many("(", 41), api.CodeMany, 37)
	wantRefused(t, "let d = "+many("(", 41)+"\nmode"+many(" m", 17), api.CodeDeep, 48)
	wantRefused(t, "let d = [a]"+many("*", 41)+many("(", 41), api.CodeDeep, 51)
}

func TestWordsOfErrors(t *testing.T) {
	for s, want := range map[string]string{
		"foo": "at 0: syntax", "let d = " + many("(", 41): "at 48: too deep", "mode" + many(" m", 17): "at 37: too many", many(" ", api.MaxFile+1): "too long",
	} {
		if _, err := Parse(s); fault.Text(err) != want {
			t.Errorf("%.40q: %s, want %s", s, fault.Text(err), want)
		}
	}
}
