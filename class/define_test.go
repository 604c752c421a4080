package class

import (
	"regexp"
	"strconv"

	"bolter/api"
	"bolter/byteset"
)

// The chapter's grammar, each form at a text's beginning; over bytes: each byte is written as the rune of its number.
const (
	charForm = `(\\[ntrvfabe0]|\\x[0-9a-fA-F][0-9a-fA-F]|\\[!-/:-@\[-` + "`" + `{-~]|[^\\\[\]\-\n])`
	nameForm = `\[:(digit|lower|upper|alpha|alnum|word|xdigit|blank|space|punct|print|cntrl|any):\]`
)

var (
	oneForm   = regexp.MustCompile(`^` + charForm)
	rangeForm = regexp.MustCompile(`^` + charForm + `-` + charForm)
	setForm   = regexp.MustCompile(`^` + nameForm)
	// A range that is not whole: behind it its second char is wanted.
	halfForm = regexp.MustCompile(`^` + charForm + `-([^\-]|$)`)
)

// definition is what Parse is to answer.
type definition struct {
	set      api.Set
	end      int
	code, at int
}

// level is a class that is open.
type level struct {
	set   api.Set
	front bool   // where its items may begin
	not   bool   // with a ^
	join  string // how its set goes into that of the one around it
}

// definer reads a class by the grammar's forms, with a list of those that are open in place of calls.
type definer struct {
	runes  []rune
	at     int
	open   []level
	join   string
	wanted bool // a class
	done   bool
	result definition
}

func define(text string) definition {
	d := &definer{wanted: true}
	for i := range len(text) {
		d.runes = append(d.runes, rune(text[i]))
	}
	for !d.done {
		rest := string(d.runes[d.at:])
		next := ""
		if len(d.runes)-d.at >= 2 {
			next = string(d.runes[d.at : d.at+2])
		}
		switch {
		case d.wanted:
			d.begin(rest)
		case next == "--" || next == "&&":
			d.leaveFront()
			d.at, d.join, d.wanted = d.at+2, next, true
		case rest != "" && rest[0] == ']':
			d.leaveFront()
			d.shut()
		case d.top().front:
			d.item(rest)
		default:
			d.refuse(api.CodeSyntax, d.at)
		}
	}
	return d.result
}

func (d *definer) top() *level { return &d.open[len(d.open)-1] }

func (d *definer) refuse(code, at int) {
	d.done, d.result = true, definition{code: code, at: at}
}

func (d *definer) begin(rest string) {
	switch {
	case rest == "" || rest[0] != '[':
		d.refuse(api.CodeSyntax, d.at)
		return
	case len(d.open) == 40:
		d.refuse(api.CodeDeep, d.at)
		return
	}
	l := level{front: true, join: d.join}
	d.at++
	if len(rest) > 1 && rest[1] == '^' {
		l.not = true
		d.at++
	}
	d.open, d.wanted = append(d.open, l), false
}

func (d *definer) leaveFront() {
	l := d.top()
	if l.front && l.not {
		l.set = byteset.Complement(l.set)
	}
	l.front = false
}

func (d *definer) shut() {
	inner := *d.top()
	d.at++
	d.open = d.open[:len(d.open)-1]
	switch {
	case len(d.open) == 0:
		d.done, d.result = true, definition{set: inner.set, end: d.at}
	case inner.join == "--":
		d.top().set = byteset.Minus(d.top().set, inner.set)
	default:
		d.top().set = byteset.Intersect(d.top().set, inner.set)
	}
}

func (d *definer) item(rest string) {
	if m := setForm.FindStringSubmatch(rest); m != nil {
		d.take(m[0], where(func(b int) bool { return nameHas(m[1], b) }))
	} else if m := rangeForm.FindStringSubmatch(rest); m != nil {
		lo, hi := charByte(m[1]), charByte(m[2])
		if lo > hi {
			d.refuse(api.CodeSyntax, d.at+runeCount(m[1])+1)
			return
		}
		d.take(m[0], span(lo, hi))
	} else if m := halfForm.FindStringSubmatch(rest); m != nil {
		d.refuse(api.CodeSyntax, d.at+runeCount(m[1])+1)
	} else if m := oneForm.FindString(rest); m != "" {
		d.take(m, span(charByte(m), charByte(m)))
	} else {
		d.refuse(api.CodeSyntax, d.at)
	}
}

func (d *definer) take(text string, s api.Set) {
	d.top().set = byteset.Union(d.top().set, s)
	d.at += runeCount(text)
}

func runeCount(s string) int { return len([]rune(s)) }

func charByte(char string) int {
	r := []rune(char)
	if r[0] != '\\' {
		return int(r[0])
	}
	if len(r) == 4 {
		n, _ := strconv.ParseInt(char[2:], 16, 64)
		return int(n)
	}
	if b, is := letters()[byte(r[1])]; is {
		return int(b)
	}
	return int(r[1])
}

// nameHas knows the names that the texts of these tests use.
func nameHas(name string, b int) bool {
	switch name {
	case "digit":
		return '0' <= b && b <= '9'
	case "any":
		return true
	}
	panic(name)
}
