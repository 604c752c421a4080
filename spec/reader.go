package spec

import (
	"bolter/api"
	"bolter/fault"
	"bolter/lex"
)

// reader goes through a rule file's lexemes from left to right.
type reader struct {
	lexemes    []api.Lexeme // those that are not read yet
	torn       error        // lex's error, behind the last of them
	end        int          // the text's length
	open       int          // parentheses that are open
	spec       api.Spec
	statements map[string]func(word api.Lexeme)
	acts       map[string]func() api.Act
}

func readerOf(text string) *reader {
	r := &reader{end: len(text)}
	r.lexemes, r.torn = lex.Lex(text)
	r.statements = map[string]func(word api.Lexeme){
		"mode": r.modes,
		"own":  r.ownModes,
		"let":  r.definition,
		"rule": r.rule,
	}
	r.acts = map[string]func() api.Act{
		"begin": r.begin,
		"push":  r.push,
		"pop":   r.pop,
	}
	return r
}

// refuse ends the reading at x. Where the lexemes end, what tore them is told ahead of what is missing.
func (r *reader) refuse(x api.Lexeme, err error) {
	if x.Kind == api.LexNone && r.torn != nil {
		panic(refusal{r.torn})
	}
	panic(refusal{fault.Place(err, x.At)})
}

// peek tells the lexeme that is next; behind the last one it is of kind LexNone, at the text's length.
func (r *reader) peek() api.Lexeme {
	if len(r.lexemes) == 0 {
		return api.Lexeme{At: r.end}
	}
	return r.lexemes[0]
}

func (r *reader) next() api.Lexeme {
	x := r.peek()
	if x.Kind != api.LexNone {
		r.lexemes = r.lexemes[1:]
	}
	return x
}

func (r *reader) stands(kind int) bool {
	return r.peek().Kind == kind
}

func (r *reader) want(kind int) api.Lexeme {
	x := r.next()
	if x.Kind != kind {
		r.refuse(x, fault.ErrSyntax)
	}
	return x
}

// mark is whether one of some marks is next.
func (r *reader) mark(marks ...string) bool {
	x := r.peek()
	for _, m := range marks {
		if x.Kind == api.LexMark && x.Text == m {
			return true
		}
	}
	return false
}

func (r *reader) pass(mark string) bool {
	if !r.mark(mark) {
		return false
	}
	r.next()
	return true
}

func (r *reader) wantMark(mark string) {
	if !r.pass(mark) {
		r.refuse(r.peek(), fault.ErrSyntax)
	}
}

// led reads one of the words of the form, and tells it with what it leads to.
func led[F any](r *reader, leads map[string]F) (api.Lexeme, F) {
	x := r.want(api.LexName)
	read, known := leads[x.Text]
	if !known {
		r.refuse(x, fault.ErrSyntax)
	}
	return x, read
}

// room refuses x, if as many as may be stand ahead of it.
func (r *reader) room(x api.Lexeme, ahead, most int) {
	if ahead == most {
		r.refuse(x, fault.ErrMany)
	}
}

func (r *reader) file() {
	for len(r.lexemes) > 0 {
		if r.stands(api.LexName) {
			x, read := led(r, r.statements)
			read(x)
		}
		if len(r.lexemes) > 0 {
			r.want(api.LexLine)
		}
	}
	if r.torn != nil {
		panic(refusal{r.torn})
	}
}

func (r *reader) modes(api.Lexeme)    { r.modeList(false) }
func (r *reader) ownModes(api.Lexeme) { r.modeList(true) }

func (r *reader) modeList(own bool) {
	r.mode(own)
	for r.stands(api.LexName) {
		r.mode(own)
	}
}

func (r *reader) mode(own bool) {
	name := r.want(api.LexName)
	r.room(name, len(r.spec.Modes), api.MaxConds)
	r.spec.Modes = append(r.spec.Modes, api.Mode{Name: name.Text, Own: own, At: name.At})
}

func (r *reader) definition(api.Lexeme) {
	name := r.want(api.LexName)
	r.room(name, len(r.spec.Defs), api.MaxDefs)
	r.wantMark("=")
	r.spec.Defs = append(r.spec.Defs, api.Def{Name: name.Text, At: name.At, Expr: r.alt()})
}

func (r *reader) rule(word api.Lexeme) {
	r.room(word, len(r.spec.Rules), api.MaxRules)
	u := api.Rule{At: word.At}
	if r.pass("<") {
		u.All, u.Modes = r.active()
	}
	u.Head = r.alt()
	if r.pass("/") {
		u.HasTrail = true
		u.Trail = r.alt()
	}
	r.wantMark("=>")
	u.Label = r.want(api.LexName).Text
	for r.pass(",") {
		u.Acts = append(u.Acts, r.act(len(u.Acts)))
	}
	r.spec.Rules = append(r.spec.Rules, u)
}

// active reads the modes of a rule, behind their "<".
func (r *reader) active() (all bool, modes []api.Use) {
	all = r.pass("*")
	if !all {
		modes = append(modes, r.use())
		for r.pass(",") {
			modes = append(modes, r.use())
		}
	}
	r.wantMark(">")
	return all, modes
}

func (r *reader) use() api.Use {
	name := r.want(api.LexName)
	return api.Use{Name: name.Text, At: name.At}
}

// act reads an action of a rule that has some ahead of it.
func (r *reader) act(ahead int) api.Act {
	x, read := led(r, r.acts)
	r.room(x, ahead, api.MaxActs)
	return read()
}

func (r *reader) begin() api.Act { return api.Act{Do: api.ActBegin, Mode: r.use()} }
func (r *reader) push() api.Act  { return api.Act{Do: api.ActPush, Mode: r.use()} }
func (r *reader) pop() api.Act   { return api.Act{Do: api.ActPop} }
