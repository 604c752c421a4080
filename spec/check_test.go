package spec

import (
	"reflect"
	"testing"

	"bolter/api"
	"bolter/fault"
)

// wantCheck asks whether a file may be; what may not be isn't printed either.
func wantCheck(t *testing.T, what string, s api.Spec, may bool) {
	t.Helper()
	want := api.Fault{}
	if !may {
		want.Code = api.CodeArg
		wantNoPrint(t, s)
	}
	if f := fault.Tell(Check(s)); !reflect.DeepEqual(f, want) {
		t.Errorf("%s: %.300v: %+v, want %+v", what, s, f, want)
	}
}

// inAll puts an expression wherever one stands in a file.
func inAll(e api.Expr) []api.Spec {
	return []api.Spec{
		defOf(e),
		ruleOf(api.Rule{Head: e, Label: "x"}),
		ruleOf(api.Rule{Head: empty(0), HasTrail: true, Trail: e, Label: "x"}),
		defOf(cat(empty(0), e)),
		defOf(alt(empty(0), empty(0), e)),
		defOf(times(0, 0, -1, e)),
		{Defs: []api.Def{{Name: "a", Expr: empty(0)}, {Name: "b", Expr: e}}},
	}
}

func wantExprCheck(t *testing.T, what string, e api.Expr, may bool) {
	t.Helper()
	for _, s := range inAll(e) {
		wantCheck(t, what, s, may)
	}
}

// P5.2: expressions

func TestExpressionsThatMayBe(t *testing.T) {
	for _, e := range []api.Expr{
		empty(0), empty(api.MaxFile), set(1, ""), set(1, "ab"), text(0, "\x00"), text(0, "1;"), ref(0, "a"), ref(0, "_9"), ref(0, "rule"), ref(0, many("Z", 32)),
		cat(empty(0), empty(0)), alt(set(3, "a"), cat(ref(7, "a"), ref(2, "b")), empty(1)),
		times(0, 0, 0, empty(0)), times(0, 0, -1, empty(0)), times(0, 5, 5, empty(0)), times(0, 5, 6, empty(0)), times(0, 1<<30, 1<<30, empty(0)), times(0, 1<<30, -1, empty(0)), times(0, 0, 1<<30, empty(0)),
	} {
		wantExprCheck(t, "an expression", e, true)
		for _, a := range []int{0, 1, api.MaxFile} {
			e.At = a
			wantExprCheck(t, "its place", e, true)
		}
		for _, a := range []int{-1, api.MaxFile + 1, -1 << 63, 1<<63 - 1} {
			e.At = a
			wantExprCheck(t, "its place", e, false)
		}
	}
}

// What a kind does not use is zero.
func TestFieldsOfEachKind(t *testing.T) {
	bases := []api.Expr{empty(0), set(0, "a"), set(0, ""), text(0, "a"), ref(0, "a"), cat(empty(0), empty(0)), alt(empty(0), empty(0)), times(0, 2, 3, empty(0))}
	for _, e := range bases {
		name := e.Op
		if name != api.OpSet {
			x := e
			x.Set = api.Set{0, 0, 0, 1 << 63}
			wantExprCheck(t, "a set", x, false)
		}
		if name != api.OpWord && name != api.OpRef {
			x := e
			x.Text = "a"
			wantExprCheck(t, "a text", x, false)
		}
		if name != api.OpRepeat {
			for _, n := range []int{1, -1} {
				x := e
				x.Min = n
				wantExprCheck(t, "a least count", x, false)
				x = e
				x.Max = n
				wantExprCheck(t, "a greatest count", x, false)
				x.Min = n
				wantExprCheck(t, "counts", x, false)
			}
		}
		for count := range 4 {
			x := e
			x.Args = make([]api.Expr, count)
			for i := range x.Args {
				x.Args[i] = empty(0)
			}
			may := count == 0
			switch name {
			case api.OpCat, api.OpAlt:
				may = count >= 2
			case api.OpRepeat:
				may = count == 1
			}
			wantExprCheck(t, "arguments", x, may)
		}
	}
}

func TestKinds(t *testing.T) {
	for op := -2; op < 12; op++ {
		wantExprCheck(t, "a kind without all", api.Expr{Op: op}, op == api.OpEmpty || op == api.OpSet)
	}
	for _, op := range []int{-1 << 63, 1<<63 - 1, api.OpNone, api.OpRepeat + 1, 1<<32 + api.OpEmpty} {
		wantExprCheck(t, "a kind", api.Expr{Op: op}, false)
	}
	wantExprCheck(t, "an argument of no kind", cat(empty(0), api.Expr{}), false)
	wantExprCheck(t, "a first argument of no kind", alt(api.Expr{}, empty(0)), false)
	wantExprCheck(t, "one of no kind in counts", nested(api.Expr{}, 7), false)
}

func TestCountsThatMayBe(t *testing.T) {
	const most = 1 << 30
	for c, may := range map[[2]int]bool{
		{0, -1}: true, {1, -1}: true, {7, -1}: true, {most, -1}: true, {most + 1, -1}: false, {-1, -1}: false, {-1 << 63, -1}: false, {1<<63 - 1, -1}: false,
		{0, -2}: false, {3, -2}: false, {-2, -2}: false, {-1, 0}: false, {-1, 5}: false, {0, -1 << 63}: false,
		{3, 2}: false, {3, 3}: true, {3, 4}: true, {1, 0}: false, {0, 0}: true, {3, 0}: false,
		{0, most}: true, {most, most}: true, {most - 1, most}: true, {0, most + 1}: false, {most + 1, most + 1}: false, {0, 1<<63 - 1}: false,
	} {
		wantExprCheck(t, "a count", times(0, c[0], c[1], empty(0)), may)
	}
}

func TestDeepExpressions(t *testing.T) {
	if Check(defOf(nested(empty(0), 1999))) != nil {
		t.Error("2000 deep may be")
	}
	for _, deep := range []int{2000, 2001, 1 << 16} {
		wantCheck(t, "too deep", defOf(nested(empty(0), deep)), false)
		wantCheck(t, "too deep", ruleOf(api.Rule{Head: nested(empty(0), deep), Label: "x"}), false)
		wantCheck(t, "too deep", ruleOf(api.Rule{Head: empty(0), HasTrail: true, Trail: nested(empty(0), deep), Label: "x"}), false)
		wantCheck(t, "too deep behind another", defOf(cat(empty(0), nested(empty(0), deep-1))), false)
	}
	// Where more arguments stand side by side, they are no deeper.
	wide := cat(empty(0), empty(0))
	for range 10 {
		wide = alt(wide, wide)
	}
	wantCheck(t, "wide", defOf(wide), true)
	e := nested(empty(0), 1998)
	if Check(defOf(cat(e, e, e))) != nil {
		t.Error("three of 1999 deep may be")
	}
	deepest, err := Parse("let d = " + deepestText())
	if err != nil || Check(deepest) != nil {
		t.Errorf("the deepest that Parse tells: %v, %v", err, Check(deepest))
	}
}

// deepestText has alternatives of rows of counts in each parenthesis.
func deepestText() string {
	counts := many("*", 40)
	return many("(", 40) + "[a]" + many(counts+"[b]|[c])", 40) + counts + "[b]|[c]"
}

// P5.2: names

func TestNames(t *testing.T) {
	for name, may := range map[string]bool{
		"a": true, "Z": true, "_": true, "a0": true, "_0": true, "mode": true, "pop": true, many("a", 32): true,
		"": false, many("a", 33): false, many("a", 1<<17): false, "0": false, "0a": false, "a ": false, " a": false, "a\n": false, "\na": false, "a b": false, "a#": false, "#a": false, "a.": false, "a\x00": false, "é": false, "aé": false, "a-b": false, "\xff": false, "[a]": false, `"a"`: false, "{a}": false, "*": false, ".": false, "\n": false, "#": false, "a\r": false, "\ta": false,
	} {
		use := api.Use{Name: name}
		for _, s := range []api.Spec{
			{Modes: []api.Mode{{Name: name}}},
			{Modes: []api.Mode{{Name: "a"}, {Name: name, Own: true}}},
			{Defs: []api.Def{{Name: name, Expr: empty(0)}}},
			ruleOf(api.Rule{Head: empty(0), Label: name}),
			ruleOf(api.Rule{Head: empty(0), Label: "x", Modes: []api.Use{use}}),
			ruleOf(api.Rule{Head: empty(0), Label: "x", Modes: []api.Use{{Name: "a"}, use}}),
			ruleOf(api.Rule{Head: empty(0), Label: "x", Acts: []api.Act{{Do: api.ActBegin, Mode: use}}}),
			ruleOf(api.Rule{Head: empty(0), Label: "x", Acts: []api.Act{{Do: api.ActPop}, {Do: api.ActPush, Mode: use}}}),
		} {
			wantCheck(t, "a name", s, may)
		}
		wantExprCheck(t, "a name", ref(0, name), may)
	}
}

// P5.2: places

func TestPlaces(t *testing.T) {
	for at, may := range map[int]bool{0: true, 1: true, api.MaxFile: true, -1: false, api.MaxFile + 1: false, -1 << 63: false, 1<<63 - 1: false} {
		use := api.Use{Name: "a", At: at}
		for _, s := range []api.Spec{
			{Modes: []api.Mode{{Name: "a", At: at}}},
			{Defs: []api.Def{{Name: "a", At: at, Expr: empty(0)}}},
			ruleOf(api.Rule{At: at, Head: empty(0), Label: "x"}),
			ruleOf(api.Rule{Head: empty(0), Label: "x", Modes: []api.Use{{Name: "b"}, use}}),
			ruleOf(api.Rule{Head: empty(0), Label: "x", Acts: []api.Act{{Do: api.ActBegin, Mode: use}}}),
			ruleOf(api.Rule{Head: empty(0), Label: "x", Acts: []api.Act{{Do: api.ActPush, Mode: use}}}),
		} {
			wantCheck(t, "a place", s, may)
		}
	}
}

// P5.2: how many

func repeated[T any](x T, n int) []T {
	var l []T
	for range n {
		l = append(l, x)
	}
	return l
}

func TestHowMany(t *testing.T) {
	rule := api.Rule{Head: empty(0), Label: "x"}
	wantCheck(t, "nothing", api.Spec{}, true)
	wantCheck(t, "empty lists", api.Spec{Modes: []api.Mode{}, Defs: []api.Def{}, Rules: []api.Rule{}}, true)
	for more, may := range []bool{true, false} {
		wantCheck(t, "modes", api.Spec{Modes: repeated(api.Mode{Name: "m"}, 16+more)}, may)
		wantCheck(t, "definitions", api.Spec{Defs: repeated(api.Def{Name: "d", Expr: empty(0)}, 200+more)}, may)
		wantCheck(t, "rules", api.Spec{Rules: repeated(rule, 200+more)}, may)
		acts := rule
		acts.Acts = repeated(api.Act{Do: api.ActPop}, 8+more)
		wantCheck(t, "actions", ruleOf(acts), may)
	}
	// Modes of a rule are not counted.
	rule.Modes = repeated(api.Use{Name: "m"}, 1000)
	wantCheck(t, "modes of a rule", ruleOf(rule), true)
}

// P5.2: rules

func TestRulesThatMayBe(t *testing.T) {
	use := []api.Use{{Name: "a"}}
	for _, x := range []struct {
		rule api.Rule
		may  bool
	}{
		{api.Rule{Head: empty(0), Label: "x"}, true},
		{api.Rule{Head: empty(0), Label: "x", Modes: []api.Use{}, Acts: []api.Act{}, Trail: api.Expr{Args: []api.Expr{}}}, true},
		{api.Rule{Label: "x"}, false},
		{api.Rule{Head: empty(0), Label: "x", All: true}, true},
		{api.Rule{Head: empty(0), Label: "x", All: true, Modes: []api.Use{}}, true},
		{api.Rule{Head: empty(0), Label: "x", Modes: use}, true},
		{api.Rule{Head: empty(0), Label: "x", All: true, Modes: use}, false},
		{api.Rule{Head: empty(0), Label: "x", HasTrail: true, Trail: empty(0)}, true},
		{api.Rule{Head: empty(0), Label: "x", HasTrail: true}, false},
		{api.Rule{Head: empty(0), Label: "x", Trail: empty(0)}, false},
		{api.Rule{Head: empty(0), Label: "x", Trail: api.Expr{At: 1}}, false},
		{api.Rule{Head: empty(0), Label: "x", Trail: api.Expr{Text: "a"}}, false},
		{api.Rule{Head: empty(0), Label: "x", Trail: api.Expr{Min: 1}}, false},
		{api.Rule{Head: empty(0), Label: "x", Trail: api.Expr{Max: -1}}, false},
		{api.Rule{Head: empty(0), Label: "x", Trail: api.Expr{Set: api.Set{1}}}, false},
		{api.Rule{Head: empty(0), Label: "x", Trail: api.Expr{Args: make([]api.Expr, 1)}}, false},
	} {
		wantCheck(t, "a rule", ruleOf(x.rule), x.may)
		second := ruleOf(api.Rule{Head: empty(0), Label: "x"})
		second.Rules = append(second.Rules, x.rule)
		wantCheck(t, "a second rule", second, x.may)
	}
}

func TestActsThatMayBe(t *testing.T) {
	to := api.Use{Name: "a", At: 7}
	for _, x := range []struct {
		act api.Act
		may bool
	}{
		{api.Act{Do: api.ActBegin, Mode: to}, true},
		{api.Act{Do: api.ActPush, Mode: to}, true},
		{api.Act{Do: api.ActPop}, true},
		{api.Act{Do: api.ActPop, Mode: to}, false},
		{api.Act{Do: api.ActPop, Mode: api.Use{Name: "a"}}, false},
		{api.Act{Do: api.ActPop, Mode: api.Use{At: 7}}, false},
		{api.Act{Do: api.ActBegin}, false},
		{api.Act{Do: api.ActPush, Mode: api.Use{At: 7}}, false},
		{api.Act{}, false},
		{api.Act{Mode: to}, false},
		{api.Act{Do: 4}, false},
		{api.Act{Do: 4, Mode: to}, false},
		{api.Act{Do: -1, Mode: to}, false},
		{api.Act{Do: 1 << 40, Mode: to}, false},
	} {
		u := api.Rule{Head: empty(0), Label: "x", Acts: []api.Act{x.act}}
		wantCheck(t, "an action", ruleOf(u), x.may)
		u.Acts = []api.Act{{Do: api.ActPop}, x.act}
		wantCheck(t, "a second action", ruleOf(u), x.may)
	}
}
