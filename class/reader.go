package class

import (
	"strconv"
	"strings"

	"bolter/api"
	"bolter/byteset"
	"bolter/fault"
)

// reader goes through a text from left to right. Where it refuses something, it has passed only what may stand there.
type reader struct {
	text string
	at   int
}

// begin takes what is no place of the text for its end, where whatever is wanted is missing.
func begin(text string, at int) *reader {
	if at < 0 || at > len(text) {
		at = len(text)
	}
	return &reader{text, at}
}

func (r *reader) refuse() error {
	return fault.Place(fault.ErrSyntax, r.at)
}

func (r *reader) stands(s string) bool {
	return strings.HasPrefix(r.text[r.at:], s)
}

func (r *reader) pass(s string) bool {
	if !r.stands(s) {
		return false
	}
	r.at += len(s)
	return true
}

// class reads a class that stands in as many others as are open.
func (r *reader) class(open int) (api.Set, error) {
	if !r.stands("[") {
		return api.Set{}, r.refuse()
	}
	if open == api.MaxDeep {
		return api.Set{}, fault.Place(fault.ErrDeep, r.at)
	}
	r.at++
	others := r.pass("^")
	s, err := r.items()
	if err != nil {
		return api.Set{}, err
	}
	if others {
		s = byteset.Complement(s)
	}
	return r.tails(s, open+1)
}

// items reads up to what ends a class's items, and leaves it there.
func (r *reader) items() (api.Set, error) {
	var s api.Set
items:
	for {
		for _, end := range [...]string{"--", "&&", "]"} {
			if r.stands(end) {
				break items
			}
		}
		read := r.span
		if r.stands("[:") {
			read = r.name
		}
		more, err := read()
		if err != nil {
			return api.Set{}, err
		}
		s = byteset.Union(s, more)
	}
	return s, nil
}

// tails reads up to the end of a class whose items are s; with it open classes are open.
func (r *reader) tails(s api.Set, open int) (api.Set, error) {
	for {
		var join func(a, b api.Set) api.Set
		switch {
		case r.pass("]"):
			return s, nil
		case r.pass("--"):
			join = byteset.Minus
		case r.pass("&&"):
			join = byteset.Intersect
		default:
			return api.Set{}, r.refuse()
		}
		other, err := r.class(open)
		if err != nil {
			return api.Set{}, err
		}
		s = join(s, other)
	}
}

// name reads a name between "[:" and ":]".
func (r *reader) name() (api.Set, error) {
	word, _, ends := strings.Cut(r.text[r.at+len("[:"):], ":]")
	s, known := named(word)
	if !ends || !known {
		return api.Set{}, r.refuse()
	}
	r.at += len("[:") + len(word) + len(":]")
	return s, nil
}

// span reads a char, or a range of two.
func (r *reader) span() (api.Set, error) {
	const marks = "[]-\n"
	lo, err := r.char(marks)
	if err != nil {
		return api.Set{}, err
	}
	if r.stands("--") || !r.pass("-") {
		return byteset.Of(lo), nil
	}
	second := r.at
	hi, err := r.char(marks)
	if err != nil {
		return api.Set{}, err
	}
	if hi < lo {
		return api.Set{}, fault.Place(fault.ErrSyntax, second)
	}
	return byteset.Range(lo, hi), nil
}

// quoted reads a quoted text.
func (r *reader) quoted() (string, error) {
	if !r.pass(`"`) {
		return "", r.refuse()
	}
	var l []byte
	for !r.pass(`"`) {
		b, err := r.char("\n")
		if err != nil {
			return "", err
		}
		l = append(l, b)
	}
	return string(l), nil
}

// char reads an escape, or any byte that is none of the marks.
func (r *reader) char(marks string) (byte, error) {
	if r.stands(`\`) {
		return r.escape()
	}
	if r.at == len(r.text) || strings.IndexByte(marks, r.text[r.at]) >= 0 {
		return 0, r.refuse()
	}
	r.at++
	return r.text[r.at-1], nil
}

func (r *reader) escape() (byte, error) {
	b, length := unescape(r.text[r.at+1:])
	if length == 0 {
		return 0, r.refuse()
	}
	r.at += 1 + length
	return b, nil
}

// unescape tells the byte that the text behind a backslash means, and how many of its bytes mean it; 0: it means none.
func unescape(text string) (b byte, length int) {
	if text == "" {
		return 0, 0
	}
	switch text[0] {
	// Bytes 13 down to 7: neighbours, so that each is one more than those that it falls through to.
	case 'r':
		b++
		fallthrough
	case 'f':
		b++
		fallthrough
	case 'v':
		b++
		fallthrough
	case 'n':
		b++
		fallthrough
	case 't':
		b++
		fallthrough
	case 'b':
		b++
		fallthrough
	case 'a':
		b += 7
		fallthrough
	case '0':
		return b, 1
	case 'e':
		return 27, 1
	case 'x':
		return unescapeHex(text)
	}
	if byteset.Has(punct(), text[0]) {
		return text[0], 1
	}
	return 0, 0
}

// unescapeHex is unescape of a text that begins with x.
func unescapeHex(text string) (b byte, length int) {
	const all = len("x00")
	if len(text) < all {
		return 0, 0
	}
	// Of base 16 ParseUint takes digits alone: no sign, no underscore.
	n, err := strconv.ParseUint(text[1:all], 16, 8)
	if err != nil {
		return 0, 0
	}
	return byte(n), all
}
