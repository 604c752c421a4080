package spec

import (
	"strconv"
	"testing"

	"bolter/api"
)

// Files that are made together with their texts: what Parse tells of a text is known without reading it.

// maker writes texts in any of the ways that the form lets, and keeps what they are to be read as.
type maker struct {
	*chance
	text []byte
}

func (m *maker) put(s string) int {
	m.text = append(m.text, s...)
	return len(m.text) - len(s)
}

// gap is what may stand between any two lexemes of a line.
func (m *maker) gap() {
	m.put([]string{"", "", " ", "  ", "\t", "\r", " \r\t"}[m.of(7)])
}

func (m *maker) lexeme(s string) int {
	m.gap()
	at := m.put(s)
	m.gap()
	return at
}

func (m *maker) name() string {
	return []string{"a", "b", "c1", "_", "mode", "own", "let", "rule", "begin", "push", "pop", "start", many("n", 32)}[m.of(13)]
}

func (m *maker) expr(deep int) api.Expr {
	var args []api.Expr
	for more := true; more; more = m.of(4) == 0 {
		if len(args) > 0 {
			m.lexeme("|")
		}
		args = append(args, m.cat(deep))
	}
	return madeOf(api.OpAlt, args)
}

func (m *maker) cat(deep int) api.Expr {
	var args []api.Expr
	for more := true; more; more = m.of(3) == 0 {
		args = append(args, m.part(deep))
	}
	return madeOf(api.OpCat, args)
}

func madeOf(op int, args []api.Expr) api.Expr {
	if len(args) == 1 {
		return args[0]
	}
	return api.Expr{Op: op, At: args[0].At, Args: args}
}

func (m *maker) part(deep int) api.Expr {
	e := m.atom(deep)
	for m.of(4) == 0 {
		e = m.count(e)
	}
	return e
}

func (m *maker) count(e api.Expr) api.Expr {
	least, more := m.of(4), m.of(3)
	if m.of(20) == 0 {
		least = 1<<30 - 2
	}
	first, second := strconv.Itoa(least), strconv.Itoa(least+more)
	switch m.of(6) {
	case 0:
		return times(m.lexeme("*"), 0, -1, e)
	case 1:
		return times(m.lexeme("+"), 1, -1, e)
	case 2:
		return times(m.lexeme("?"), 0, 1, e)
	case 3:
		return times(m.braces("0"+first), least, least, e)
	case 4:
		return times(m.braces(first, ","), least, -1, e)
	}
	return times(m.braces(first, ",", second), least, least+more, e)
}

func (m *maker) braces(parts ...string) int {
	at := m.lexeme("{")
	for _, p := range parts {
		m.lexeme(p)
	}
	m.lexeme("}")
	return at
}

func (m *maker) atom(deep int) api.Expr {
	kind := m.of(10)
	if kind > 5 && deep == 0 {
		kind = m.of(6)
	}
	switch kind {
	case 0:
		return empty(m.lexeme([]string{"()", `""`, "(\t)"}[m.of(3)]))
	case 1, 2:
		words := []string{`"a"`, "a", `"ab"`, "ab", `"\x00\""`, "\x00\"", `"{2}"`, "{2}", `"*"`, "*", "\"\xff#\"", "\xff#"}
		i := 2 * m.of(len(words)/2)
		return text(m.lexeme(words[i]), words[i+1])
	case 3, 4:
		sets := []string{"[a]", "a", "[]", "", "[a-c#]", "abc#", `[\n]`, "\n", "[a-z&&[xyz]]", "xyz"}
		i := 2 * m.of(len(sets)/2)
		return set(m.lexeme(sets[i]), sets[i+1])
	case 5:
		name := m.name()
		return ref(m.braces(name), name)
	}
	m.lexeme("(")
	e := m.expr(deep - 1)
	m.lexeme(")")
	return e
}

func (m *maker) use() api.Use {
	name := m.name()
	return api.Use{Name: name, At: m.lexeme(name)}
}

func (m *maker) rule(deep int) api.Rule {
	u := api.Rule{At: m.lexeme("rule")}
	switch m.of(3) {
	case 0:
		u.All = true
		m.lexeme("<")
		m.lexeme("*")
		m.lexeme(">")
	case 1:
		between := "<"
		for range 1 + m.of(3) {
			m.lexeme(between)
			u.Modes = append(u.Modes, m.use())
			between = ","
		}
		m.lexeme(">")
	}
	u.Head = m.expr(deep)
	if m.of(3) == 0 {
		m.lexeme("/")
		u.HasTrail = true
		u.Trail = m.expr(deep)
	}
	m.lexeme("=>")
	u.Label = m.name()
	m.lexeme(u.Label)
	for range m.of(2) * m.of(9) {
		u.Acts = append(u.Acts, m.act())
	}
	return u
}

func (m *maker) act() api.Act {
	m.lexeme(",")
	do := 1 + m.of(3)
	m.lexeme([]string{"begin", "push", "pop"}[do-1])
	a := api.Act{Do: do}
	if do != api.ActPop {
		m.put(" ")
		a.Mode = m.use()
	}
	return a
}

func (m *maker) modes(own bool) []api.Mode {
	m.lexeme([]string{"mode", "own"}[map[bool]int{true: 1}[own]])
	var l []api.Mode
	for range 1 + m.of(3) {
		m.put(" ")
		u := m.use()
		l = append(l, api.Mode{Name: u.Name, Own: own, At: u.At})
	}
	return l
}

// file makes a file of some lines, in no order of kinds.
func (m *maker) file(lines, deep int) api.Spec {
	var s api.Spec
	for range lines {
		switch m.of(5) {
		case 0:
			if len(s.Modes) < 13 {
				s.Modes = append(s.Modes, m.modes(m.of(2) == 0)...)
			}
		case 1, 2:
			m.lexeme("let")
			m.put(" ")
			u := m.use()
			m.lexeme("=")
			s.Defs = append(s.Defs, api.Def{Name: u.Name, At: u.At, Expr: m.expr(deep)})
		case 3:
			s.Rules = append(s.Rules, m.rule(deep))
		}
		m.put([]string{"\n", "\r\n", " # a | (\n", "\n\n"}[m.of(4)])
	}
	return s
}

// made tells texts, and what each is to be read as.
func made(c *chance, count int) (texts []string, specs []api.Spec) {
	for range count {
		m := maker{chance: c}
		s := m.file(c.of(8), c.of(4))
		texts = append(texts, string(m.text))
		specs = append(specs, s)
	}
	return texts, specs
}

func files(c *chance, count int) []string {
	texts, _ := made(c, count)
	return texts
}

// P5.1: the file, with all places; P5.5: it may be

func TestMadeFiles(t *testing.T) {
	c := chance(7)
	texts, specs := made(&c, 5000)
	for i, s := range texts {
		wantFile(t, s, specs[i])
		if Check(specs[i]) != nil {
			t.Errorf("%q may not be", s)
		}
	}
}

// P5.3, P5.5: printed, and read again

func TestMadeFilesPrinted(t *testing.T) {
	c := chance(8)
	_, specs := made(&c, 5000)
	for _, s := range specs {
		once, err := Print(s)
		if err != nil {
			t.Fatalf("%+v: %v", s, err)
		}
		again, err := Parse(once)
		if err != nil || !Same(s, again) || !equal(Bare(s), Bare(again)) {
			t.Fatalf("%q: %+v, %v; want %+v", once, again, err, s)
		}
		if twice, err := Print(again); twice != once || err != nil {
			t.Fatalf("%q: %q, %v", once, twice, err)
		}
		if bare, err := Print(Bare(s)); bare != once || err != nil {
			t.Fatalf("%q: %q, %v without places", once, bare, err)
		}
	}
}
