package spec

import (
	"strconv"
	"strings"

	"bolter/api"
	"bolter/class"
	"bolter/fault"
)

// writer writes a rule file that may be. What would be longer than one that can be read ends it by a refusal.
type writer struct {
	text strings.Builder
}

func (w *writer) put(texts ...string) {
	for _, t := range texts {
		w.room(len(t))
		w.text.WriteString(t)
	}
}

func (w *writer) room(more int) {
	if more > api.MaxFile-w.text.Len() {
		panic(refusal{fault.ErrArg})
	}
}

func (w *writer) file(s api.Spec) {
	for _, m := range s.Modes {
		kind := "mode "
		if m.Own {
			kind = "own "
		}
		w.put(kind, m.Name, "\n")
	}
	for _, d := range s.Defs {
		w.put("let ", d.Name, " = ")
		w.expr(d.Expr)
		w.put("\n")
	}
	for _, u := range s.Rules {
		w.rule(u)
	}
}

func (w *writer) rule(u api.Rule) {
	w.put("rule ")
	if u.All {
		w.put("<*> ")
	}
	if len(u.Modes) > 0 {
		w.active(u.Modes)
	}
	w.expr(u.Head)
	if u.HasTrail {
		w.put(" / ")
		w.expr(u.Trail)
	}
	w.put(" => ", u.Label)
	for _, a := range u.Acts {
		w.act(a)
	}
	w.put("\n")
}

func (w *writer) active(modes []api.Use) {
	between := "<"
	for _, m := range modes {
		w.put(between, m.Name)
		between = ","
	}
	w.put("> ")
}

func (w *writer) act(a api.Act) {
	switch a.Do {
	case api.ActBegin:
		w.put(", begin ", a.Mode.Name)
	case api.ActPush:
		w.put(", push ", a.Mode.Name)
	case api.ActPop:
		w.put(", pop")
	}
}

func (w *writer) expr(e api.Expr) {
	switch e.Op {
	case api.OpEmpty:
		w.put("()")
	case api.OpSet:
		w.put(class.Text(e.Set))
	case api.OpWord:
		// Asked ahead of quoting it, which makes it longer.
		w.room(len(e.Text))
		w.put(class.Quote(e.Text))
	case api.OpRef:
		w.put("{", e.Text, "}")
	case api.OpCat:
		w.args(e, " ")
	case api.OpAlt:
		w.args(e, " | ")
	case api.OpRepeat:
		w.args(e, "")
		w.put(count(e.Min, e.Max))
	}
}

func (w *writer) args(e api.Expr, between string) {
	for i, arg := range e.Args {
		if i > 0 {
			w.put(between)
		}
		if arg.Op == api.OpAlt || arg.Op == api.OpCat && e.Op != api.OpAlt {
			w.put("(")
			w.expr(arg)
			w.put(")")
		} else {
			w.expr(arg)
		}
	}
}

// count tells the one text of a count.
func count(least, most int) string {
	switch {
	case least == 0 && most == -1:
		return "*"
	case least == 1 && most == -1:
		return "+"
	case least == 0 && most == 1:
		return "?"
	case most == least:
		return "{" + strconv.Itoa(least) + "}"
	case most == -1:
		return "{" + strconv.Itoa(least) + ",}"
	}
	return "{" + strconv.Itoa(least) + "," + strconv.Itoa(most) + "}"
}
