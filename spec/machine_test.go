package spec

import (
	"strings"
	"testing"

	"bolter/api"
	"bolter/fault"
	"bolter/lex"
)

// What Parse refuses, held against a second reading of the form: a flat machine that keeps no expressions, only what may stand next.

// machine is in a state, which names what stands ahead of its next lexeme.
type machine struct {
	state  string
	where  string // let, head or trail: what an expression is of
	least  int    // a count's first number
	open   int
	counts int
	acts   int
	modes  int
	defs   int
	rules  int
	code   int // of the refusal, if there is one
}

// byMachine tells the code and the place of what is to be refused of a text.
func byMachine(s string) (code, at int) {
	l, err := lex.Lex(s)
	m := machine{state: "line"}
	for i, x := range l {
		behind := api.Lexeme{}
		if i+1 < len(l) {
			behind = l[i+1]
		}
		m.code = api.CodeSyntax
		if m.state = m.step(name(x), x.N, behind.Kind == api.LexNumber); m.state == "" {
			return m.code, x.At
		}
	}
	if err != nil {
		return fault.Tell(err).Code, fault.Tell(err).At
	}
	if m.may("\n", 0) {
		return api.CodeNone, 0
	}
	return api.CodeSyntax, len(s)
}

// name is what the machine calls a lexeme: a mark its text, a name its text with a letter ahead.
func name(x api.Lexeme) string {
	switch x.Kind {
	case api.LexName:
		return "N" + x.Text
	case api.LexNumber:
		return "number"
	case api.LexText, api.LexClass:
		return "single"
	case api.LexLine:
		return "\n"
	}
	return x.Text
}

func (m machine) may(x string, n int) bool {
	return m.step(x, n, false) != ""
}

// room is the next state, unless as many as may be are there already.
func (m *machine) room(count *int, most int, next string) string {
	if *count == most {
		m.code = api.CodeMany
		return ""
	}
	*count++
	return next
}

// step tells the state behind a lexeme; none, if it can't stand there.
func (m *machine) step(x string, n int, number bool) string {
	switch m.state {
	case "line", "modes", "done":
		return m.outside(x)
	case "atom", "part", "opened":
		return m.inside(x, number)
	}
	named := strings.HasPrefix(x, "N")
	switch at := m.state; {
	case at == "mode" && named:
		return m.room(&m.modes, 16, "modes")
	case at == "let" && named:
		return m.room(&m.defs, 200, "=")
	case at == "=" && x == "=":
		m.where = "let"
		return "atom"
	case at == "rule" && x == "<":
		return "<"
	case at == "rule":
		m.state = "atom"
		return m.inside(x, number)
	case at == "<" && x == "*":
		return ">"
	case (at == "<" || at == "use") && named:
		return "used"
	case at == "used" && x == ",":
		return "use"
	case (at == "used" || at == ">") && x == ">":
		return "atom"
	case at == "{" && named:
		return "}"
	case at == "}" && x == "}":
		return m.behindAtom()
	case at == "{n" && x == "number":
		m.least = n
		return "n"
	case at == "n" && x == ",":
		return "n,"
	case at == "n," && x == "number" && n >= m.least:
		return "n,m"
	case strings.HasPrefix(at, "n") && x == "}":
		return "part"
	case at == "=>" && named:
		m.acts = 0
		return "done"
	case at == "," && (x == "Nbegin" || x == "Npush"):
		return m.room(&m.acts, 8, "to")
	case at == "," && x == "Npop":
		return m.room(&m.acts, 8, "done")
	case at == "to" && named:
		return "done"
	}
	return ""
}

// outside is a step where a line may begin or end.
func (m *machine) outside(x string) string {
	switch {
	case x == "\n":
		return "line"
	case m.state == "modes" && strings.HasPrefix(x, "N"):
		return m.room(&m.modes, 16, "modes")
	case m.state == "done" && x == ",":
		return ","
	case m.state != "line":
		return ""
	case x == "Nmode" || x == "Nown":
		return "mode"
	case x == "Nlet":
		return "let"
	case x == "Nrule":
		m.where = "head"
		return m.room(&m.rules, 200, "rule")
	}
	return ""
}

// inside is a step within an expression.
func (m *machine) inside(x string, number bool) string {
	part := m.state == "part"
	switch {
	case x == "single":
		return m.behindAtom()
	case part && (x == "*" || x == "+" || x == "?"):
		return m.counted("part")
	case part && x == "{" && number:
		return m.counted("{n")
	case x == "{":
		return "{"
	case x == "(" && m.open == 40:
		m.code = api.CodeDeep
	case x == "(":
		m.open++
		return "opened"
	case x == ")" && (m.state == "opened" || part && m.open > 0):
		m.open--
		return m.behindAtom()
	case part && x == "|":
		return "atom"
	case part && m.open == 0:
		return m.behindExpression(x)
	}
	return ""
}

func (m *machine) behindAtom() string {
	m.counts = 0
	return "part"
}

func (m *machine) counted(next string) string {
	if m.counts == 40 {
		m.code = api.CodeDeep
		return ""
	}
	m.counts++
	return next
}

func (m *machine) behindExpression(x string) string {
	switch {
	case m.where == "let" && x == "\n":
		return "line"
	case m.where == "head" && x == "/":
		m.where = "trail"
		return "atom"
	case m.where != "let" && x == "=>":
		return "=>"
	}
	return ""
}

func compareWithMachine(t *testing.T, s string) {
	t.Helper()
	code, at := byMachine(s)
	_, err := Parse(s)
	if f := fault.Tell(err); f.Code != code || f.At != at {
		t.Fatalf("%q: %+v; by the machine code %d at %d", s, f, code, at)
	}
}

var pieces = []string{"mode ", "own ", "let ", "rule ", "push ", "pop ", "a ", "1 ", "2 ", `""`, "[a]", "(", ")", "|", "*", "+", "{", "}", ",", "/", "<", ">", "= ", "=>", "\n", ";"}

// Parse refuses what the machine does, whatever stands behind each of these.
func TestShortTextsByMachine(t *testing.T) {
	for _, ahead := range []string{"", "mode a", "mode ", "let a", "let a=", "let a=.", "let a=.*", "let a=(", "let a=(.", "let a={", "let a={a", "let a=.{", "let a=.{2", "let a=.{2,", "let a=.{1,2", "let a=.|", "rule ", "rule .", "rule ./", "rule ./.", "rule .=>", "rule .=>a", "rule .=>a,", "rule .=>a,push ", "rule .=>a,push a", "rule .=>a,pop ", "rule<", "rule<*", "rule<*>", "rule<a", "rule<a,", "rule<a>"} {
		compareWithMachine(t, ahead)
		for _, a := range pieces {
			compareWithMachine(t, ahead+a)
			for _, b := range pieces {
				compareWithMachine(t, ahead+a+b)
				for _, c := range pieces {
					compareWithMachine(t, ahead+a+b+c)
				}
			}
		}
	}
}

// Files that may be, and those that come of them where a few of their parts go, come or change.
func TestFilesByMachine(t *testing.T) {
	c := chance(5)
	for _, s := range files(&c, 300) {
		compareWithMachine(t, s)
		if _, err := Parse(s); err != nil {
			t.Fatalf("%q: %v", s, err)
		}
		for range 30 {
			compareWithMachine(t, spoilt(&c, s))
		}
	}
}

// spoilt is a text with one piece put over some of its bytes, or between them.
func spoilt(c *chance, s string) string {
	from := c.of(len(s) + 1)
	to := min(len(s), from+c.of(4))
	return s[:from] + pieces[c.of(len(pieces))] + s[to:]
}

// Where the caps are met.
func TestRunsByMachine(t *testing.T) {
	c := chance(6)
	starts := []string{"let a = ", "rule ", "rule <*> () => x", "mode a", many("let a = ()\n", 199), many("rule () => x\n", 199)}
	runs := []string{"(", ")", "()", ".", "*", "{1}", "{a}", "|.", ",pop", ", push a", " m", "\nown m", "\nlet a = ()", "\nrule . => x", "\n", " / ", " => y"}
	for range 6000 {
		s := starts[c.of(len(starts))]
		for range 1 + c.of(6) {
			n := c.of(3)
			if c.of(3) == 0 {
				n += 6 + c.of(38)
			}
			s += many(runs[c.of(len(runs))], n)
		}
		compareWithMachine(t, s)
	}
}
