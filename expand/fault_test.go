package expand_test

import (
	"testing"

	"bolter/api"
	"bolter/expand"
	"bolter/spec"
)

// P7.3, P7.4: what is refused

func repeatAt(at int) api.Fault { return api.Fault{Code: api.CodeRepeat, At: at} }

func TestCounts(t *testing.T) {
	for text, at := range map[string]int{
		`rule "a"{101} => t`: 8, `rule "a"{101,} => t`: 8, `rule "a"{0,101} => t`: 8, `rule "a"{100,101} => t`: 8, `rule "a"{101,200} => t`: 8, `rule "a"{1073741824} => t`: 8, `rule "a"{99999999999999999999,} => t`: 8,
		`rule (){101} => t`: 7, `rule "a"{101}{0} => t`: 8, `rule "a"{0}{101} => t`: 11, `rule "a"{101}{101} => t`: 8, `rule "a"{100}{101} => t`: 13,
		`rule ("a" ("b"|"c"{101})*)? => t`: 18, `rule "b" / "a"{101} => t`: 14, `rule "b"{102} / "a"{101} => t`: 8, `rule "a"{100} "b"{101} "c"{101} => t`: 17,
		"rule \"a\" => t\nrule \"a\"{101} => t":                   22,
		"let d = [a]{101}":                                        11,
		"let d = [a]{101}\nrule \"a\" => t":                       11,
		"let d = [a]{101}\nlet e = [a]{101}":                      11,
		"rule \"a\"{101} => t\nlet d = [a]{101}":                  8,
		"let d = [a]{100}\nrule \"a\"{101} => t":                  25,
		"let d = [a]\nlet e = {d}{0}\nrule \"a\" / {e}{101} => t": 41,
		"own m\nrule \"a\"{101} => t":                             14,
		// CodeTooManyPositions stands behind.
		"rule \"a\"{100}{100} => t\nrule \"a\"{101} => t": 32,
	} {
		wantFault(t, text, parsed(t, text), repeatAt(at))
	}
	for _, text := range []string{`rule "a"{100} => t`, `rule "a"{100,} => t`, `rule "a"{0,100} => t`, `rule "a"{100,100} => t`, "let d = [a]{100}{100}{100}", `rule () / (){100}{100,}{99,100} => t`} {
		if _, err := expand.Expand(parsed(t, text)); err != nil {
			t.Errorf("%s: %v", text, err)
		}
	}
}

// countAt is a count that is too great, at a place.
func countAt(at int) api.Expr {
	e := times(set("a"), 101, -1)
	e.At = at
	return e
}

// Of several the one at the least place is told, wherever it stands.
func TestTheLeastPlace(t *testing.T) {
	c := chance(5)
	for range 300 {
		least := api.MaxFile
		next := func() api.Expr {
			at := c.of(20)
			least = min(least, at)
			return []api.Expr{countAt(at), cat(set("b"), countAt(at)), nested(countAt(at), 5), times(countAt(at), 0, 0)}[c.of(4)]
		}
		var s api.Spec
		for i := range 1 + c.of(2) {
			s.Defs = append(s.Defs, def(defName(i), next()))
		}
		for range c.of(3) {
			s.Rules = append(s.Rules, trailed(next(), next()))
		}
		wantFault(t, s, s, repeatAt(least))
	}
	both := countAt(9)
	both.Args[0] = countAt(3)
	wantFault(t, "one in another", file(nil, both), repeatAt(3))
	both.At = 2
	wantFault(t, "one in another", file(nil, both), repeatAt(2))
	wantFault(t, "place 0", file(nil, countAt(7), countAt(0), countAt(3)), repeatAt(0))
	wantFault(t, "the last place", file(nil, countAt(api.MaxFile)), repeatAt(api.MaxFile))
	wantFault(t, "MaxNumber", file(nil, times(set("a"), api.MaxNumber, -1)), repeatAt(0))
	wantFault(t, "MaxNumber", file(nil, times(set("a"), 0, api.MaxNumber)), repeatAt(0))
}

// names' errors stand ahead.
func TestErrorsInOrder(t *testing.T) {
	great := "rule \"a\"{101}{100} => t\nrule \"b\"{100}{100} => u\n"
	wantFault(t, "CodeRepeat", parsed(t, great), repeatAt(8))
	wantFault(t, "CodeDefCycle", parsed(t, great+"let a = {b}\nlet b = {a}"), api.Fault{Code: api.CodeDefCycle, Names: []string{"a", "b"}})
	wantFault(t, "CodeName", parsed(t, great+"let a = {a}\nrule {q}{101} => t"), api.Fault{Code: api.CodeName, At: 65, Names: []string{"q"}})
	wantFault(t, "CodeName", parsed(t, great+"mode m m"), api.Fault{Code: api.CodeName, At: 55, Names: []string{"m"}})
	wantFault(t, "CodeName", parsed(t, `rule {q}{101} => t`), api.Fault{Code: api.CodeName, At: 5, Names: []string{"q"}})
	s := parsed(t, great+"let a = {a}\nrule {q}{101} => t")
	s.Rules[0].Label = ""
	wantFault(t, "CodeArg", s, api.Fault{Code: api.CodeArg})
}

func TestFilesThatMayNotBe(t *testing.T) {
	a := set("a")
	for what, e := range map[string]api.Expr{
		"nothing": {}, "no kind": {Op: 8}, "an empty word": {Op: api.OpWord}, "a word that has a set": {Op: api.OpWord, Text: "a", Set: a.Set}, "a place below 0": {Op: api.OpSet, At: -1},
		"a cat of one": cat(a), "a count of two": {Op: api.OpRepeat, Max: 1, Args: []api.Expr{a, a}}, "a count of none": {Op: api.OpRepeat, Max: 1}, "3 to 2": times(a, 3, 2), "0 to -2": times(a, 0, -2), "-1 to -1": times(a, -1, -1),
		"over MaxNumber": times(a, 0, api.MaxNumber+1), "deep": nested(a, 2000), "a set with arguments": {Op: api.OpSet, Args: []api.Expr{a}}, "an empty name": ref(""),
	} {
		wantFault(t, what, file(nil, e), api.Fault{Code: api.CodeArg})
		wantFault(t, what, file([]api.Def{def("d", e)}, a), api.Fault{Code: api.CodeArg})
		wantFault(t, what, api.Spec{Rules: []api.Rule{trailed(a, cat(e, countAt(3)))}}, api.Fault{Code: api.CodeArg})
	}
	wantFault(t, "a trail that isn't", api.Spec{Rules: []api.Rule{{Head: a, Trail: a, Label: "x"}}}, api.Fault{Code: api.CodeArg})
	wantFault(t, "no trail", api.Spec{Rules: []api.Rule{{Head: a, HasTrail: true, Label: "x"}}}, api.Fault{Code: api.CodeArg})
	wantFault(t, "too many rules", file(nil, make([]api.Expr, api.MaxRules+1)...), api.Fault{Code: api.CodeArg})
	if deep := file(nil, nested(a, 1999)); spec.Check(deep) != nil || shown(coreOf(t, deep)) != "a*" {
		t.Error("1999 counts are refused")
	}
}
