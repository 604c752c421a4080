package match_test

import (
	"errors"
	"fmt"
	"math/bits"
	"reflect"
	"slices"
	"testing"

	"bolter/api"
	"bolter/byteset"
	"bolter/fault"
	"bolter/match"
	"bolter/samples"
)

// coresOf tells the cores of a rule file.
func coresOf(t *testing.T, text string) []api.Core {
	t.Helper()
	l, err := samples.Cores(text)
	if err != nil {
		t.Fatalf("%q: %v", text, err)
	}
	return l
}

// coreOf tells the core of an expression as it is written.
func coreOf(t *testing.T, text string) api.Expr {
	t.Helper()
	return coresOf(t, "rule "+text+" => t")[0].Head
}

// The parts of expressions, by short names.
var (
	empty, set, cat, alt     = samples.Empty, samples.Set, samples.Cat, samples.Alt
	star, plus, maybe, times = samples.Star, samples.Plus, samples.Maybe, samples.Times
	row, nested              = samples.Row, samples.Nested
	rule, trailed            = samples.Rule, samples.Trailed
)

func isArg(err error) bool {
	return reflect.DeepEqual(fault.Tell(err), api.Fault{Code: api.CodeArg}) && errors.Is(err, fault.ErrArg)
}

func wantEnds(t *testing.T, what any, e api.Expr, text string, want ...int) {
	t.Helper()
	if got, err := match.Ends(e, []byte(text)); !slices.Equal(got, want) || err != nil {
		t.Errorf("%s over %s: %s, %v; want %s", short(what), short(text), short(got), err, short(want))
	}
}

func wantNext(t *testing.T, what any, e api.Expr, text, want string) {
	t.Helper()
	if got, err := match.Next(e, []byte(text)); got != byteset.Of([]byte(want)...) || err != nil {
		t.Errorf("%s behind %s: %q, %v; want %q", short(what), short(text), byteset.List(got), err, want)
	}
}

func wantLabel(t *testing.T, what any, l []api.Core, active []int, text string, want int) {
	t.Helper()
	if got, err := match.Label(l, active, []byte(text)); got != want || err != nil {
		t.Errorf("%s, %v of %s: %d, %v; want %d", short(what), short(active), short(text), got, err, want)
	}
}

func wantLongest(t *testing.T, what any, l []api.Core, active []int, text string, n, rule int) {
	t.Helper()
	if gotN, got, err := match.Longest(l, active, []byte(text)); gotN != n || got != rule || err != nil {
		t.Errorf("%s, %s over %s: %d, %d, %v; want %d, %d", short(what), short(active), short(text), gotN, got, err, n, rule)
	}
}

// wantNone asks of both calls of an expression that they refuse, and tell nothing beside.
func wantNone(t *testing.T, what any, e api.Expr, text []byte) {
	t.Helper()
	if got, err := match.Ends(e, text); len(got) > 0 || !isArg(err) {
		t.Errorf("%s: %s, %+v", short(what), short(got), fault.Tell(err))
	}
	if got, err := match.Next(e, text); got != (api.Set{}) || !isArg(err) {
		t.Errorf("%s: %v, %+v", short(what), got, fault.Tell(err))
	}
}

// wantNoRule asks of both calls of rules that they refuse, and tell nothing beside.
func wantNoRule(t *testing.T, what any, l []api.Core, active []int, text []byte) {
	t.Helper()
	if got, err := match.Label(l, active, text); got != 0 || !isArg(err) {
		t.Errorf("%s: %d, %+v", short(what), got, fault.Tell(err))
	}
	if n, got, err := match.Longest(l, active, text); n != 0 || got != 0 || !isArg(err) {
		t.Errorf("%s: %d, %d, %+v", short(what), n, got, fault.Tell(err))
	}
}

// short is the beginning of what may be long.
func short(x any) string {
	text := fmt.Sprintf("%+v", x)
	return text[:min(len(text), 600)]
}

// lang is some words of the bytes a and b, as the document defines them: a word's number is its bytes as bits (b is 1) behind a 1; longer words are left out.
type lang [1 << (longest + 1)]bool

const longest = 8

func number(word string) int {
	n := 1
	for _, b := range []byte(word) {
		n = n<<1 | int(b-'a')
	}
	return n
}

func langOf(e api.Expr) lang {
	var l lang
	switch e.Op {
	case api.OpEmpty:
		l[number("")] = true
	case api.OpSet:
		l[number("a")], l[number("b")] = byteset.Has(e.Set, 'a'), byteset.Has(e.Set, 'b')
	case api.OpCat:
		l = langOf(empty())
		for _, a := range e.Args {
			l = l.then(langOf(a))
		}
	case api.OpAlt:
		for _, a := range e.Args {
			l = l.or(langOf(a))
		}
	default:
		l = langOf(e.Args[0]).repeated(e.Min, e.Max)
	}
	return l
}

func (l lang) then(m lang) lang {
	var both lang
	for v := range l {
		for w := 1; l[v] && w < len(m) && bits.Len(uint(v))+bits.Len(uint(w)) <= longest+2; w++ {
			if n := bits.Len(uint(w)) - 1; m[w] {
				both[v<<n|w&(1<<n-1)] = true
			}
		}
	}
	return both
}

func (l lang) or(m lang) lang {
	for v, is := range m {
		l[v] = l[v] || is
	}
	return l
}

// repeated is least to most rounds; what as many rounds as bytes do not bring, no more rounds bring.
func (l lang) repeated(least, most int) lang {
	var all lang
	if least == 0 {
		all = langOf(empty())
	}
	if most == -1 {
		most = longest
	}
	now := langOf(empty())
	for range most {
		now = now.then(l)
		if all.or(now) == all {
			break
		}
		all = all.or(now)
	}
	return all
}

// endsBy tells at which places of a text of at most 63 bytes a word of e ends that begins at one of some places.
func endsBy(e api.Expr, text string, from uint64) uint64 {
	var ends uint64
	switch e.Op {
	case api.OpEmpty:
		return from
	case api.OpSet:
		for i := range len(text) {
			if from>>i&1 == 1 && byteset.Has(e.Set, text[i]) {
				ends |= 2 << i
			}
		}
		return ends
	case api.OpCat:
		for _, a := range e.Args {
			from = endsBy(a, text, from)
		}
		return from
	case api.OpAlt:
		for _, a := range e.Args {
			ends |= endsBy(a, text, from)
		}
		return ends
	}
	ends = endsBy(e.Args[0], text, from)
	for old := uint64(0); e.Max == -1 && ends != old; {
		old = ends
		ends |= endsBy(e.Args[0], text, ends)
	}
	if e.Min == 0 {
		ends |= from
	}
	return ends
}

// listOf is the numbers of the bits that are 1.
func listOf(ends uint64) []int {
	var l []int
	for n := range 64 {
		if ends>>n&1 == 1 {
			l = append(l, n)
		}
	}
	return l
}

// beginningsOf is an expression of all beginnings of the words of e; false, if there are no words.
func beginningsOf(e api.Expr) (api.Expr, bool) {
	switch e.Op {
	case api.OpEmpty:
		return e, true
	case api.OpSet:
		return alt(empty(), e), e.Set != api.Set{}
	case api.OpCat:
		last := len(e.Args) - 1
		begin, some := beginningsOf(e.Args[last])
		for i := last - 1; i >= 0; i-- {
			ahead, also := beginningsOf(e.Args[i])
			begin, some = alt(ahead, cat(e.Args[i], begin)), some && also
		}
		return begin, some
	case api.OpAlt:
		some := set("")
		for _, a := range e.Args {
			if begin, is := beginningsOf(a); is {
				some = alt(some, begin)
			}
		}
		return some, some.Op == api.OpAlt
	}
	begin, some := beginningsOf(e.Args[0])
	switch {
	case !some:
		return empty(), e.Min == 0
	case e.Max == -1:
		begin = cat(star(e.Args[0]), begin)
	}
	return begin, true
}

// nextBy tells of the bytes that the cores by chance have in their sets those that may stand behind a text.
func nextBy(e api.Expr, text string) string {
	begin, some := beginningsOf(e)
	next := ""
	for _, b := range []string{"\x00", "a", "b", "\xff"} {
		if some && endsBy(begin, text+b, 1)>>(len(text)+1)&1 == 1 {
			next += b
		}
	}
	return next
}

// wordsOf is a core of all words of a rule.
func wordsOf(c api.Core) api.Expr {
	if c.HasTrail {
		return cat(c.Head, c.Trail)
	}
	return c.Head
}

// chance makes what tests are tried on of a row of numbers.
type chance struct{ samples.Chance }

func (c *chance) core(deep int) api.Expr {
	return c.Core(deep, "", "a", "b", "ab", "a\x00", "b\xff")
}

// rules makes some rules, some of which have a trail, and some numbers of them.
func (c *chance) rules(deep int) ([]api.Core, []int) {
	var l []api.Core
	var active []int
	for range 1 + c.Of(5) {
		r := rule(c.core(deep))
		if c.Of(3) == 0 {
			r = trailed(r.Head, c.core(deep))
		}
		l = append(l, r)
	}
	for range c.Of(7) {
		active = append(active, c.Of(len(l)))
	}
	return l, active
}

// texts tells all texts of a and b of so many bytes.
func texts(n int) []string {
	l := []string{""}
	for range n {
		var longer []string
		for _, text := range l {
			longer = append(longer, text+"a", text+"b")
		}
		l = longer
	}
	return l
}

func small() []api.Expr {
	return samples.Small(empty(), set(""), set("a"), set("b"))
}
