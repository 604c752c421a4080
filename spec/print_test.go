package spec

import (
	"testing"

	"bolter/api"
)

// P5.3: texts

// wantExprPrint asks for an expression's text, in a definition and in a rule.
func wantExprPrint(t *testing.T, e api.Expr, want string) {
	t.Helper()
	wantPrint(t, defOf(e), "let d = "+want+"\n")
	wantPrint(t, ruleOf(api.Rule{Head: e, HasTrail: true, Trail: e, Label: "x"}), "rule "+want+" / "+want+" => x\n")
}

func TestTextsOfExpressions(t *testing.T) {
	a, b, c := set(5, "a"), text(6, "b"), ref(7, "c")
	for want, e := range map[string]api.Expr{
		`()`:                       empty(3),
		`[]`:                       set(0, ""),
		`[a-c]`:                    set(0, "abc"),
		`[\n\-\]]`:                 set(0, "-]\n"),
		`[\x00-\t\x0b-\xff]`:       {Op: api.OpSet, Set: api.Set{^uint64(1 << 10), ^uint64(0), ^uint64(0), ^uint64(0)}},
		`"b"`:                      b,
		`"{2} #\"\\\n\x00\xff'"`:   text(0, "{2} #\"\\\n\x00\xff'"),
		`{c}`:                      c,
		`[a] "b"`:                  cat(a, b),
		`[a] "b" {c}`:              cat(a, b, c),
		`[a] | "b"`:                alt(a, b),
		`[a] | "b" | {c}`:          alt(a, b, c),
		`() | ()`:                  alt(empty(0), empty(0)),
		`() ()`:                    cat(empty(0), empty(0)),
		`([a] "b") {c}`:            cat(cat(a, b), c),
		`[a] ("b" {c})`:            cat(a, cat(b, c)),
		`([a] | "b") {c}`:          cat(alt(a, b), c),
		`[a] "b" | {c}`:            alt(cat(a, b), c),
		`[a] | "b" {c}`:            alt(a, cat(b, c)),
		`([a] | "b") | {c}`:        alt(alt(a, b), c),
		`[a] | ("b" | {c})`:        alt(a, alt(b, c)),
		`([a] "b")*`:               times(0, 0, -1, cat(a, b)),
		`([a] | "b")+`:             times(0, 1, -1, alt(a, b)),
		`[a]* "b"?`:                cat(times(0, 0, -1, a), times(0, 0, 1, b)),
		`[a]* | "b"?`:              alt(times(0, 0, -1, a), times(0, 0, 1, b)),
		`[a]{2} {c}{3,}`:           cat(times(0, 2, 2, a), times(0, 3, -1, c)),
		`()*`:                      times(0, 0, -1, empty(0)),
		`[]?`:                      times(0, 0, 1, set(0, "")),
		`(([a] | "b") {c} | ())*`:  times(0, 0, -1, alt(cat(alt(a, b), c), empty(0))),
		`((([a] "b") {c}) "b") ()`: cat(cat(cat(cat(a, b), c), b), empty(0)),
		`([a] ("b" | {c})){2}`:     times(0, 2, 2, cat(a, alt(b, c))),
	} {
		wantExprPrint(t, e, want)
	}
}

func TestTextsOfCounts(t *testing.T) {
	for want, c := range map[string][2]int{
		"*": {0, -1}, "+": {1, -1}, "?": {0, 1}, "{0}": {0, 0}, "{1}": {1, 1}, "{2}": {2, 2}, "{2,}": {2, -1}, "{100,}": {100, -1}, "{0,2}": {0, 2}, "{1,2}": {1, 2}, "{2,3}": {2, 3},
		"{1073741824}": {1 << 30, 1 << 30}, "{1073741824,}": {1 << 30, -1}, "{0,1073741824}": {0, 1 << 30}, "{9,10}": {9, 10},
	} {
		wantExprPrint(t, times(0, c[0], c[1], set(0, "a")), "[a]"+want)
		wantExprPrint(t, times(0, 2, 2, times(0, c[0], c[1], set(0, "a"))), "[a]"+want+"{2}")
		wantExprPrint(t, times(0, c[0], c[1], times(0, 0, 1, ref(0, "b"))), "{b}?"+want)
	}
}

func TestTextsOfFiles(t *testing.T) {
	wantPrint(t, api.Spec{}, "")
	wantPrint(t, api.Spec{Modes: []api.Mode{{Name: "b"}, {Name: "a", Own: true}, {Name: "c"}, {Name: "a"}}}, "mode b\nown a\nmode c\nmode a\n")
	wantPrint(t, api.Spec{
		Rules: []api.Rule{
			{Head: empty(9), Label: "y", All: true},
			{Head: alt(empty(0), set(0, "a")), Label: "x", Modes: []api.Use{{Name: "a"}, {Name: "b"}, {Name: "a"}}, HasTrail: true, Trail: alt(set(0, "b"), empty(0)),
				Acts: []api.Act{{Do: api.ActPop}, {Do: api.ActPush, Mode: api.Use{Name: "b"}}, {Do: api.ActBegin, Mode: api.Use{Name: "pop"}}, {Do: api.ActPop}}},
			{Head: ref(0, "mode"), Label: "rule", Modes: []api.Use{{Name: "rule"}}},
			{Head: empty(0), Label: "y", HasTrail: true, Trail: empty(0)},
		},
		Defs:  []api.Def{{Name: "z", Expr: ref(0, "z")}, {Name: "let", Expr: cat(empty(0), empty(0))}},
		Modes: []api.Mode{{Name: "mode", Own: true, At: 77}},
	}, "own mode\nlet z = {z}\nlet let = () ()\nrule <*> () => y\nrule <a,b,a> () | [a] / [b] | () => x, pop, push b, begin pop, pop\nrule <rule> {mode} => rule\nrule () / () => y\n")
	// Names need not stand for anything; places are not printed.
	s, err := Parse("rule((\"a\"|\"b\")\"c\") => x")
	if err != nil {
		t.Fatal(err)
	}
	wantPrint(t, s, "rule (\"a\" | \"b\") \"c\" => x\n")
}

// P5.3: what is too long, or too deep, to be read

func TestLongTexts(t *testing.T) {
	const around = len("let d = \"\"\n")
	wantPrint(t, defOf(text(0, many("a", api.MaxFile-around))), "let d = \""+many("a", api.MaxFile-around)+"\"\n")
	wantNoPrint(t, defOf(text(0, many("a", api.MaxFile-around+1))))
	wantPrint(t, defOf(text(0, many("\x00", (api.MaxFile-around)/4))), "let d = \""+many(`\x00`, (api.MaxFile-around)/4)+"\"\n")
	wantNoPrint(t, defOf(text(0, many("\x00", (api.MaxFile-around)/4+1))))
	for _, n := range []int{api.MaxFile, api.MaxFile + 1, 1 << 24} {
		wantNoPrint(t, defOf(text(0, many("\x00", n))))
	}
	// What ends it may be any part of the text.
	args := cat(repeated(empty(0), (api.MaxFile-len("let d = \n")+1)/3)...)
	if s, err := Print(defOf(args)); err != nil || len(s) > api.MaxFile || len(s) < api.MaxFile-3 {
		t.Errorf("%d bytes, %v", len(s), err)
	}
	wantNoPrint(t, defOf(cat(append(args.Args, empty(0))...)))
	wantNoPrint(t, defOf(cat(repeated(empty(0), 1<<17)...)))
	wantNoPrint(t, ruleOf(api.Rule{Head: empty(0), Label: "x", Modes: repeated(api.Use{Name: "m"}, 1<<15)}))
	wantNoPrint(t, api.Spec{Defs: repeated(api.Def{Name: "d", Expr: text(0, many("a", 400))}, 200)})
}

// rightward is a cat whose last argument is a cat, and so on: each but the outermost stands in parentheses.
func rightward(e api.Expr, deep int) api.Expr {
	for range deep {
		e = cat(set(0, "a"), e)
	}
	return e
}

func TestDeepTexts(t *testing.T) {
	wantPrint(t, defOf(rightward(ref(0, "b"), 41)), "let d = "+many("[a] (", 40)+"[a] {b}"+many(")", 40)+"\n")
	for _, deep := range []int{42, 43, 1999} {
		wantNoPrint(t, defOf(rightward(ref(0, "b"), deep)))
	}
	// "()" is a parenthesis, too.
	wantPrint(t, defOf(rightward(empty(0), 40)), "let d = "+many("[a] (", 39)+"[a] ()"+many(")", 39)+"\n")
	wantNoPrint(t, defOf(rightward(empty(0), 41)))
	wantPrint(t, defOf(nested(set(0, "a"), 40)), "let d = [a]"+many("*", 40)+"\n")
	for _, deep := range []int{41, 100, 1999} {
		wantNoPrint(t, defOf(nested(set(0, "a"), deep)))
	}
	// Counts of what stands in parentheses are counted anew.
	wantPrint(t, defOf(nested(cat(nested(set(0, "a"), 40), empty(0)), 40)), "let d = ([a]"+many("*", 40)+" ())"+many("*", 40)+"\n")
}

// P5.5: what Parse told, and Print refuses

func TestReadButNotPrinted(t *testing.T) {
	for _, s := range []string{
		// Parentheses between counts go.
		"let d = ([a]" + many("*", 40) + ")*",
		"let d = ((([a]" + many("+", 20) + ")" + many("?", 20) + ")){2}",
		// A quoted text of no bytes is printed as one more parenthesis.
		"let d = " + many("[a]([b]", 40) + `""` + many(")", 40),
		// Blanks, and bytes that are written as escapes.
		"let d = " + many(`"a"`, (api.MaxFile-8)/3),
		"let d = \"" + many("\xff", api.MaxFile/2) + "\"",
		"let d = " + many("()|", 20000) + "()",
	} {
		x, err := Parse(s)
		if err != nil || Check(x) != nil {
			t.Errorf("%.100q: %v, %v", s, err, Check(x))
		}
		wantNoPrint(t, x)
	}
	// But not where they go and are not needed.
	for s, want := range map[string]string{
		"let d = " + many("(", 40) + `""` + many(")", 40):                    "let d = ()\n",
		"let d = " + many("[a](", 39) + `[b]""` + many(")", 39):              "let d = " + many("[a] (", 39) + "[b] ()" + many(")", 39) + "\n",
		"let d = (([a]" + many("*", 20) + "))" + many("*", 20):               "let d = [a]" + many("*", 40) + "\n",
		"let d = " + many("(", 40) + "[a]" + many(")", 40) + many("{2}", 40): "let d = [a]" + many("{2}", 40) + "\n",
	} {
		x, err := Parse(s)
		if err != nil {
			t.Errorf("%s: %v", s, err)
		}
		wantPrint(t, x, want)
	}
}
