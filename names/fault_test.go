package names

import (
	"math"
	"reflect"
	"slices"
	"strings"
	"testing"

	"bolter/api"
	"bolter/fault"
	"bolter/spec"
)

// P6.2: CodeArg

func ruleOf(u api.Rule) api.Rule {
	u.Label = "x"
	if u.Head.Op == api.OpNone {
		u.Head = empty()
	}
	return u
}

func TestFilesThatMayNotBe(t *testing.T) {
	use := api.Use{Name: "m"}
	for what, s := range map[string]api.Spec{
		"a mode without a name":   {Modes: []api.Mode{{}}},
		"a mode with no proper":   {Modes: []api.Mode{{Name: "1"}}},
		"too many modes":          {Modes: slices.Repeat([]api.Mode{{Name: "m"}}, api.MaxConds+1)},
		"too many definitions":    {Defs: slices.Repeat([]api.Def{{Name: "d", Expr: empty()}}, api.MaxDefs+1)},
		"too many rules":          {Rules: slices.Repeat([]api.Rule{ruleOf(api.Rule{})}, api.MaxRules+1)},
		"a rule of nothing":       {Rules: make([]api.Rule, 1)},
		"a definition of nothing": {Defs: []api.Def{{Name: "d"}}},
		"a long name":             {Defs: []api.Def{{Name: strings.Repeat("d", 33), Expr: empty()}}},
		"a use without a name":    {Defs: []api.Def{{Name: "d", Expr: ref("")}}},
		"a use with arguments":    {Defs: []api.Def{{Name: "d", Expr: api.Expr{Op: api.OpRef, Text: "d", Args: []api.Expr{empty()}}}}},
		"a place below 0":         {Modes: []api.Mode{{Name: "m", At: -1}}},
		"a place behind all":      {Rules: []api.Rule{ruleOf(api.Rule{Head: refAt(api.MaxFile+1, "d")})}},
		"all and some modes":      {Modes: []api.Mode{{Name: "m"}}, Rules: []api.Rule{ruleOf(api.Rule{All: true, Modes: []api.Use{use}})}},
		"a trail that isn't":      {Rules: []api.Rule{ruleOf(api.Rule{Trail: ref("d")})}},
		"a pop to a mode":         {Modes: []api.Mode{{Name: "m"}}, Rules: []api.Rule{ruleOf(api.Rule{Acts: []api.Act{{Do: api.ActPop, Mode: use}}})}},
		"an act of no kind":       {Modes: []api.Mode{{Name: "m"}}, Rules: []api.Rule{ruleOf(api.Rule{Acts: []api.Act{{Do: 4, Mode: use}}})}},
		"a begin of nothing":      {Rules: []api.Rule{ruleOf(api.Rule{Acts: []api.Act{{Do: api.ActBegin}}})}},
		"too many acts":           {Rules: []api.Rule{ruleOf(api.Rule{Acts: slices.Repeat([]api.Act{{Do: api.ActPop}}, api.MaxActs+1)})}},
		"too deep":                {Defs: []api.Def{{Name: "d", Expr: nested(empty(), 50*api.MaxDeep)}}},
	} {
		wantFault(t, what, s, api.Fault{Code: api.CodeArg})
		// CodeArg stands ahead of all others.
		s.Defs = append([]api.Def{{Name: "c", Expr: ref("c")}}, s.Defs...)
		wantFault(t, what, s, api.Fault{Code: api.CodeArg})
		s.Rules = append([]api.Rule{ruleOf(api.Rule{Head: ref("q"), Modes: []api.Use{{Name: "q"}}})}, s.Rules...)
		s.Modes = append([]api.Mode{{Name: "n"}, {Name: "n"}}, s.Modes...)
		wantFault(t, what, s, api.Fault{Code: api.CodeArg})
	}
}

// What may just be is not refused.
func TestFilesAtTheCaps(t *testing.T) {
	var s api.Spec
	for _, name := range numbered(api.MaxConds) {
		s.Modes = append(s.Modes, api.Mode{Name: name, At: api.MaxFile})
	}
	for _, name := range numbered(api.MaxDefs) {
		s.Defs = append(s.Defs, api.Def{Name: name, Expr: nested(empty(), 3)})
	}
	s.Defs[0].Expr = nested(ref(s.Defs[1].Name), 50*api.MaxDeep-1)
	push := api.Act{Do: api.ActPush, Mode: api.Use{Name: s.Modes[15].Name}}
	s.Rules = slices.Repeat([]api.Rule{ruleOf(api.Rule{All: true, Acts: slices.Repeat([]api.Act{push}, api.MaxActs)})}, api.MaxRules)
	n, err := Resolve(s)
	if err != nil || len(n.Modes) != 16 || len(n.Active) != 16 || len(n.Active[15]) != 200 || len(n.Order) != 200 || len(n.Acts) != 200 || len(n.Acts[199]) != 8 || n.Acts[199][7] != (api.Step{Do: api.ActPush, Mode: 15}) {
		t.Errorf("%+v, %v", n, err)
	}
	if n.Order[0] != 1 || n.Order[1] != 0 || n.Order[2] != 2 {
		t.Errorf("%v", n.Order)
	}
}

// P6.2: CodeName

func TestMisnamed(t *testing.T) {
	for text, want := range map[string]api.Fault{
		// the document's
		"rule {q} => t":              misnamedAt(5, "q"),
		`rule "a" => t, push z`:      misnamedAt(20, "z"),
		"mode m m":                   misnamedAt(7, "m"),
		"let a = {q}\nlet b = {b}":   misnamedAt(8, "q"),
		"let b = {b}\nrule {q} => t": misnamedAt(17, "q"),
		// modes
		"mode m n m n":                  misnamedAt(9, "m"),
		"mode m n n m":                  misnamedAt(9, "n"),
		"own m\nmode m":                 misnamedAt(11, "m"),
		"mode m\nown n\nown m":          misnamedAt(17, "m"),
		"mode m m m":                    misnamedAt(7, "m"),
		"mode start start":              misnamedAt(11, "start"),
		"rule () => t\nmode m m":        misnamedAt(20, "m"),
		"mode m\nlet m = {m2}\nmode m2": misnamedAt(15, "m2"),
		// definitions
		"let a = ()\nlet a = ()":                         misnamedAt(15, "a"),
		"let a = ()\nlet b = ()\nlet b = ()\nlet a = ()": misnamedAt(26, "b"),
		"let a = {a}\nlet a = ()":                        misnamedAt(16, "a"),
		// OpRefs
		"let a = {A}":                             misnamedAt(8, "A"),
		"let a = ()\nlet b = ({a} {aa})*{2}":      misnamedAt(24, "aa"),
		"let a = {c}{b}":                          misnamedAt(8, "c"),
		"rule {a} {b} => t\nlet b = ()":           misnamedAt(5, "a"),
		"rule {b} {a} => t\nlet b = ()":           misnamedAt(9, "a"),
		"rule {b} / {a} => t\nlet b = ()":         misnamedAt(11, "a"),
		"rule () => t\nrule () / (() | {t}) => u": misnamedAt(29, "t"),
		"mode m\nrule {m} => m":                   misnamedAt(12, "m"),
		"let start = {start2}":                    misnamedAt(12, "start2"),
		// uses of modes
		"rule <m> () => t":                           misnamedAt(6, "m"),
		"rule <start,m> () => t":                     misnamedAt(12, "m"),
		"mode m\nrule <m,start> () => t":             misnamedAt(15, "start"),
		"own m\nrule () => t, begin start":           misnamedAt(26, "start"),
		"rule () => t, pop, begin start, push t":     misnamedAt(37, "t"),
		"let m = ()\nrule () => m, begin m":          misnamedAt(31, "m"),
		"rule <*> () => t, begin m":                  misnamedAt(24, "m"),
		"mode m M\nrule <M> () => t, begin mm":       misnamedAt(33, "mm"),
		"mode m\nrule <m,m> () => t, push m, push n": misnamedAt(40, "n"),
	} {
		wantFault(t, text, parsed(t, text), want)
	}
}

// Those that a name may stand for are not faults.
func TestWellNamed(t *testing.T) {
	for _, text := range []string{
		"", "mode m n\nown o", "mode start", "own start\nrule <start> () => t", "let m = ()\nmode m\nrule {m} => m",
		"rule <start> () => t, begin start, push start, pop", "mode m\nrule <m,m,m> () => t, push m\nrule <*> () => t, pop, pop",
		"rule {b} / {a} => t\nlet a = {b}\nlet b = ()", "rule () => t\nrule () => t", "mode m\nmode M\nlet d = ()\nlet D = {d}", "let pop = ()\nmode pop\nrule <pop> {pop} => pop, begin pop, pop",
	} {
		if _, err := Resolve(parsed(t, text)); err != nil {
			t.Errorf("%q: %v", text, err)
		}
	}
}

// spoilt has one name of each kind that may not stand where it does, at such places.
func spoilt(modeAt, defAt, headAt, useAt int) api.Spec {
	return api.Spec{
		Modes: []api.Mode{{Name: "m", At: 90}, {Name: "m", At: modeAt}},
		Defs:  []api.Def{{Name: "d", At: 91, Expr: ref("d")}, {Name: "d", At: defAt, Expr: empty()}},
		Rules: []api.Rule{ruleOf(api.Rule{Head: refAt(headAt, "h"), Modes: []api.Use{{Name: "u", At: useAt}}})},
	}
}

// The least place is told; at one place the first kind.
func TestLeastPlace(t *testing.T) {
	kinds := []string{"m", "d", "h", "u"}
	for n := range 4 * 4 * 4 * 4 {
		places := []int{n % 4, n / 4 % 4, n / 16 % 4, n / 64}
		for i := range places {
			places[i] *= api.MaxFile / 3
		}
		least := slices.Min(places)
		s := spoilt(places[0], places[1], places[2], places[3])
		wantFault(t, places, s, misnamedAt(least, kinds[slices.Index(places, least)]))
	}
}

// Without each of the kinds in turn the next one is told; places are no others' than those of the fault.
func TestEachKindAlone(t *testing.T) {
	s := spoilt(5, 5, 5, 5)
	wantFault(t, "all", s, misnamedAt(5, "m"))
	s.Modes[1].Name = "n"
	wantFault(t, "no mode twice", s, misnamedAt(5, "d"))
	s.Defs[1].Name = "h"
	wantFault(t, "no definition twice", s, misnamedAt(5, "u"))
	s.Rules[0].Modes[0].Name = "n"
	wantFault(t, "no name", s, cycleOf("d"))
	s.Defs[0].Expr = ref("h")
	wantNames(t, "no fault", s, api.Names{Modes: []string{"m", "n"}, Active: [][]int{nil, {0}}, Order: []int{1, 0}, Acts: [][]api.Step{nil}})
}

// Of several alike at one place the first in the file is told.
func TestFirstInTheFile(t *testing.T) {
	s := api.Spec{
		Modes: []api.Mode{{Name: "a"}, {Name: "b"}, {Name: "b"}, {Name: "a"}},
		Defs:  []api.Def{{Name: "c", Expr: empty()}, {Name: "d", Expr: empty()}, {Name: "d", Expr: ref("e")}, {Name: "c", Expr: alt(empty(), cat(star(ref("f")), ref("g")))}},
		Rules: []api.Rule{
			ruleOf(api.Rule{Head: cat(empty(), ref("h")), HasTrail: true, Trail: ref("i"), Modes: []api.Use{{Name: "a"}, {Name: "k"}, {Name: "l"}}, Acts: []api.Act{{Do: api.ActPop}, {Do: api.ActPush, Mode: api.Use{Name: "m"}}, {Do: api.ActBegin, Mode: api.Use{Name: "n"}}}}),
			ruleOf(api.Rule{Head: ref("j"), Modes: []api.Use{{Name: "o"}}}),
		},
	}
	var got []string
	for range 50 {
		n, err := Resolve(s)
		f := fault.Tell(err)
		if err == nil || len(f.Names) != 1 || !reflect.DeepEqual(f, misnamedAt(0, f.Names[0])) || !equal(n, api.Names{}) {
			break
		}
		got = append(got, f.Names[0])
		mend(&s, f.Names[0])
	}
	if text := strings.Join(got, ""); text != "badcefghijklmno" {
		t.Error(text)
	}
}

// mend takes away a fault of spoilt names: the second of a name gets another one; what names nothing names the first.
func mend(s *api.Spec, name string) {
	for i, m := range s.Modes[1:] {
		if m.Name == name && i > 0 {
			s.Modes[i+1].Name += "2"
		}
	}
	for i, d := range s.Defs {
		if d.Name == name && i > 1 {
			s.Defs[i].Name += "2"
		}
		mendExpr(&s.Defs[i].Expr, name)
	}
	for i := range s.Rules {
		mendExpr(&s.Rules[i].Head, name)
		mendExpr(&s.Rules[i].Trail, name)
		for j := range s.Rules[i].Modes {
			mendUse(&s.Rules[i].Modes[j], name)
		}
		for j := range s.Rules[i].Acts {
			mendUse(&s.Rules[i].Acts[j].Mode, name)
		}
	}
}

func mendExpr(e *api.Expr, name string) {
	if e.Op == api.OpRef && e.Text == name {
		e.Text = "c"
	}
	for i := range e.Args {
		mendExpr(&e.Args[i], name)
	}
}

func mendUse(u *api.Use, name string) {
	if u.Name == name && name > "b" {
		u.Name = "a"
	}
}

// Made files, whose first misnamed is found by listing all of them with their places.

type misname struct {
	at, kind int
	name     string
}

func allMisnamed(s api.Spec) []misname {
	var l []misname
	modes, defs := []string{"start"}, []string{}
	if len(s.Modes) > 0 {
		modes = nil
	}
	for _, m := range s.Modes {
		if slices.Contains(modes, m.Name) {
			l = append(l, misname{m.At, 0, m.Name})
		}
		modes = append(modes, m.Name)
	}
	for _, d := range s.Defs {
		if slices.Contains(defs, d.Name) {
			l = append(l, misname{d.At, 1, d.Name})
		}
		defs = append(defs, d.Name)
	}
	var look func(e api.Expr)
	look = func(e api.Expr) {
		if e.Op == api.OpRef && !slices.Contains(defs, e.Text) {
			l = append(l, misname{e.At, 2, e.Text})
		}
		for _, arg := range e.Args {
			look(arg)
		}
	}
	for _, d := range s.Defs {
		look(d.Expr)
	}
	for _, u := range s.Rules {
		look(u.Head)
		look(u.Trail)
		uses := slices.Clone(u.Modes)
		for _, a := range u.Acts {
			if a.Do != api.ActPop {
				uses = append(uses, a.Mode)
			}
		}
		for _, use := range uses {
			if !slices.Contains(modes, use.Name) {
				l = append(l, misname{use.At, 3, use.Name})
			}
		}
	}
	return l
}

// file makes a file of few names, with few faults, at few places.
func (c *chance) file(places int) api.Spec {
	var s api.Spec
	name := func(ahead string) string { return ahead + string(rune('0'+min(c.of(7), c.of(7), c.of(7)))) }
	at := func() int { return c.of(places) }
	expr := func() api.Expr {
		e := refAt(at(), name("d"))
		switch c.of(4) {
		case 0:
			return empty()
		case 1:
			return alt(e, star(refAt(at(), name("d"))))
		}
		return e
	}
	for i := range c.of(4) {
		m := name("m")
		if c.of(4) > 0 {
			m = "m" + string(rune('0'+i))
		}
		s.Modes = append(s.Modes, api.Mode{Name: m, At: at(), Own: c.of(2) == 0})
	}
	for i := range c.of(8) {
		d := name("d")
		if c.of(8) > 0 {
			d = "d" + string(rune('0'+i))
		}
		s.Defs = append(s.Defs, api.Def{Name: d, At: at(), Expr: expr()})
	}
	use := func() api.Use {
		if len(s.Modes) == 0 && c.of(4) > 0 {
			return api.Use{Name: "start", At: at()}
		}
		return api.Use{Name: name("m"), At: at()}
	}
	for range c.of(4) {
		u := ruleOf(api.Rule{Head: expr(), At: at()})
		if c.of(2) == 0 {
			u.HasTrail, u.Trail = true, expr()
		}
		if u.All = c.of(3) == 0; !u.All {
			for range c.of(3) {
				u.Modes = append(u.Modes, use())
			}
		}
		u.Acts = c.acts(c.of(3), use)
		s.Rules = append(s.Rules, u)
	}
	return s
}

func TestMisnamedOfMade(t *testing.T) {
	c := chance(11)
	var without int
	for i := range 60000 {
		s := c.file([]int{1, 2, 5, api.MaxFile + 1}[i%4])
		if spec.Check(s) != nil {
			t.Fatalf("%+v may not be", s)
		}
		l := allMisnamed(s)
		if len(l) == 0 {
			without++
			if _, err := Resolve(s); err != nil && fault.Code(err) != api.CodeDefCycle {
				t.Errorf("%+v: %v", s, err)
			}
			continue
		}
		first := misname{at: math.MaxInt}
		for _, x := range l {
			if x.at < first.at || x.at == first.at && x.kind < first.kind {
				first = x
			}
		}
		wantFault(t, s, s, misnamedAt(first.at, first.name))
	}
	if without < 6000 {
		t.Errorf("too few without a fault: %d", without)
	}
}
