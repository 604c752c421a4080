package spec

import (
	"bolter/api"
	"bolter/fault"
)

// How a reader reads expressions.

func (r *reader) alt() api.Expr {
	args := []api.Expr{r.cat()}
	for r.pass("|") {
		args = append(args, r.cat())
	}
	return joined(api.OpAlt, args)
}

func (r *reader) cat() api.Expr {
	args := []api.Expr{r.part()}
	for r.atomBegins() {
		args = append(args, r.part())
	}
	return joined(api.OpCat, args)
}

func joined(op int, args []api.Expr) api.Expr {
	if len(args) == 1 {
		return args[0]
	}
	return api.Expr{Op: op, At: args[0].At, Args: args}
}

func (r *reader) part() api.Expr {
	e := r.atom()
	for counts := 0; r.countBegins(); counts++ {
		x := r.next()
		if counts == api.MaxDeep {
			r.refuse(x, fault.ErrDeep)
		}
		least, most := r.count(x)
		e = api.Expr{Op: api.OpRepeat, At: x.At, Min: least, Max: most, Args: []api.Expr{e}}
	}
	return e
}

// countBegins holds behind an atom or a count: of a "{" the lexeme behind it tells whether it begins one more.
func (r *reader) countBegins() bool {
	if r.mark("{") {
		return len(r.lexemes) > 1 && r.lexemes[1].Kind == api.LexNumber
	}
	return r.mark("*", "+", "?")
}

// count reads the count that x begins.
func (r *reader) count(x api.Lexeme) (least, most int) {
	switch x.Text {
	case "*":
		return 0, -1
	case "+":
		return 1, -1
	case "?":
		return 0, 1
	}
	least = r.want(api.LexNumber).N
	most = least
	if r.pass(",") {
		most = r.most(least)
	}
	r.wantMark("}")
	return least, most
}

// most reads a count's second number, if it has one.
func (r *reader) most(least int) int {
	if !r.stands(api.LexNumber) {
		return -1
	}
	x := r.next()
	if x.N < least {
		r.refuse(x, fault.ErrSyntax)
	}
	return x.N
}

func (r *reader) atomBegins() bool {
	return r.stands(api.LexText) || r.stands(api.LexClass) || r.mark("(", "{")
}

func (r *reader) atom() api.Expr {
	if !r.atomBegins() {
		r.refuse(r.peek(), fault.ErrSyntax)
	}
	x := r.next()
	switch {
	case x.Kind == api.LexClass:
		return api.Expr{Op: api.OpSet, At: x.At, Set: x.Set}
	case x.Kind == api.LexMark && x.Text == "{":
		name := r.want(api.LexName)
		r.wantMark("}")
		return api.Expr{Op: api.OpRef, At: x.At, Text: name.Text}
	case x.Kind == api.LexMark:
		return r.group(x)
	case x.Text == "":
		return api.Expr{Op: api.OpEmpty, At: x.At}
	}
	return api.Expr{Op: api.OpWord, At: x.At, Text: x.Text}
}

// group reads what stands in the parentheses that x opens.
func (r *reader) group(x api.Lexeme) api.Expr {
	if r.open == api.MaxDeep {
		r.refuse(x, fault.ErrDeep)
	}
	if r.pass(")") {
		return api.Expr{Op: api.OpEmpty, At: x.At}
	}
	r.open++
	e := r.alt()
	r.wantMark(")")
	r.open--
	return e
}
