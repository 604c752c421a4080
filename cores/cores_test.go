package cores_test

import (
	"slices"
	"testing"

	"bolter/api"
	"bolter/cores"
)

func set() api.Expr { return api.Expr{Op: api.OpSet, Set: api.Set{1}} }

func TestCoresThatMayBe(t *testing.T) {
	a := set()
	for what, l := range map[string][]api.Core{
		"none": nil, "an empty list": {}, "one": {{Head: a}}, "a trail": {{Head: a, HasTrail: true, Trail: a}}, "two": {{Head: a, HasTrail: true, Trail: a}, {Head: a}},
		"an empty list in a trail that is none": {{Head: a, Trail: api.Expr{Args: []api.Expr{}}}},
		"as many as may be":                     slices.Repeat([]api.Core{{Head: a}}, api.MaxRules),
	} {
		if !cores.MayBe(l) {
			t.Errorf("%s: no", what)
		}
	}
}

func TestCoresThatMayNotBe(t *testing.T) {
	a, word := set(), api.Expr{Op: api.OpWord, Text: "a"}
	for what, l := range map[string][]api.Core{
		"no head": {{}}, "a head that is none": {{Head: word}}, "the last": {{Head: a}, {Head: a}, {Head: word}},
		"no trail": {{Head: a, HasTrail: true}}, "a trail that is none": {{Head: a, HasTrail: true, Trail: word}}, "no head, but a trail": {{HasTrail: true, Trail: a}},
		"too many": slices.Repeat([]api.Core{{Head: a}}, api.MaxRules+1),
	} {
		if cores.MayBe(l) {
			t.Errorf("%s: yes", what)
		}
	}
	for _, trail := range []api.Expr{
		a, word, {Op: api.OpEmpty}, {Op: -1}, {At: 1}, {At: -1}, {Set: api.Set{1}}, {Set: api.Set{0, 0, 0, 1 << 63}},
		{Text: "\x00"}, {Min: 1}, {Min: -1}, {Max: 1}, {Max: -1}, {Args: []api.Expr{{}}},
	} {
		if cores.MayBe([]api.Core{{Head: a, Trail: trail}}) {
			t.Errorf("%+v: yes", trail)
		}
	}
}
