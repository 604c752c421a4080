package fault

import (
	"errors"
	"fmt"
	"math"
	"reflect"
	"slices"
	"strings"
	"testing"

	"bolter/api"
)

// coded: each code with its error and the words that stand in the face, written out once more.
func coded() []struct {
	code  int
	err   error
	words string
} {
	return []struct {
		code  int
		err   error
		words string
	}{
		{api.CodeLong, ErrLong, "too long"},
		{api.CodeSyntax, ErrSyntax, "syntax"},
		{api.CodeDeep, ErrDeep, "too deep"},
		{api.CodeMany, ErrMany, "too many"},
		{api.CodeName, ErrName, "name"},
		{api.CodeDefCycle, ErrDefCycle, "definition cycle"},
		{api.CodeRepeat, ErrRepeat, "repeat"},
		{api.CodeTooManyPositions, ErrTooManyPositions, "too many positions"},
		{api.CodeTrail, ErrTrail, "trailing context"},
		{api.CodeTooManyStates, ErrTooManyStates, "too many states"},
		{api.CodeImage, ErrImage, "image"},
		{api.CodeModeStack, ErrModeStack, "mode stack"},
		{api.CodeClosed, ErrClosed, "closed"},
		{api.CodeArg, ErrArg, "argument"},
		{api.CodeCommand, ErrCommand, "command"},
		{api.CodeHandle, ErrHandle, "handle"},
	}
}

// kind is one way to wrap an error.
type kind struct {
	name string
	wrap func(error) error
	set  func(*api.Fault) // what it says
	text string           // what it puts ahead
}

func kinds() []kind {
	return []kind{
		{"Place", func(e error) error { return Place(e, 7) }, func(f *api.Fault) { f.At = 7 }, "at 7: "},
		{"Named", func(e error) error { return Named(e, "a", "b") }, func(f *api.Fault) { f.Names = []string{"a", "b"} }, "a, b: "},
		{"InRule", func(e error) error { return InRule(e, 3) }, func(f *api.Fault) { f.Rule = 3 }, "rule 3: "},
		{"InStage", func(e error) error { return InStage(e, 2) }, func(f *api.Fault) { f.Stage = 2 }, "stage 2: "},
	}
}

// same holds two faults against each other; nil and empty names are one.
func same(a, b api.Fault) bool {
	return a.Code == b.Code && a.Stage == b.Stage && a.Rule == b.Rule && a.At == b.At && slices.Equal(a.Names, b.Names)
}

func wantTell(t *testing.T, what string, err error, want api.Fault) {
	t.Helper()
	if got := Tell(err); !same(got, want) {
		t.Errorf("%s: Tell: %+v, want %+v", what, got, want)
	}
	if got := Code(err); got != want.Code {
		t.Errorf("%s: Code: %d, want %d", what, got, want.Code)
	}
}

func wantText(t *testing.T, what string, err error, want string) {
	t.Helper()
	if got := Text(err); got != want {
		t.Errorf("%s: Text: %q, want %q", what, got, want)
	}
	if err != nil && err.Error() != want {
		t.Errorf("%s: Error: %q, want %q", what, err.Error(), want)
	}
}

// Errors of somebody else.

var errElse = errors.New("else")

// lists may not be held against each other: to compare two of them panics.
type lists struct{ l []error }

func (e lists) Error() string { return "lists" }

// around wraps an error, and tells words of its own.
type around struct{ err error }

func (e around) Error() string { return "around" }
func (e around) Unwrap() error { return e.err }

// likeName wraps nothing, but says by a method Is that it is ErrName.
type likeName struct{}

func (likeName) Error() string        { return "like name" }
func (likeName) Is(target error) bool { return target == ErrName }

// hidden wraps by methods Is and As alone, not by Unwrap.
type hidden struct{ err error }

func (e hidden) Error() string        { return "hidden" }
func (e hidden) Is(target error) bool { return errors.Is(e.err, target) }
func (e hidden) As(target any) bool   { return errors.As(e.err, target) }

// liar says that it is everything, and hands nothing out.
type liar struct{}

func (liar) Error() string { return "liar" }
func (liar) As(any) bool   { return true }

// bomb panics whatever it is asked.
type bomb struct{}

func (bomb) Error() string { panic("Error") }
func (bomb) Is(error) bool { panic("Is") }
func (bomb) As(any) bool   { panic("As") }
func (bomb) Unwrap() error { panic("Unwrap") }

// pointer panics as soon as one that is nil is asked for its words.
type pointer struct{ words string }

func (p *pointer) Error() string { return p.words }

// P2.1

func TestOf(t *testing.T) {
	for _, c := range coded() {
		if got := Of(c.code); got != c.err {
			t.Errorf("Of(%d): %v, want %v", c.code, got, c.err)
		}
		if c.err.Error() != c.words {
			t.Errorf("words of code %d: %q, want %q", c.code, c.err.Error(), c.words)
		}
	}
	for i, a := range coded() {
		for _, b := range coded()[:i] {
			if a.err == b.err || errors.Is(a.err, b.err) {
				t.Errorf("codes %d and %d have one error", a.code, b.code)
			}
		}
	}
}

func TestOfWhatIsNoCode(t *testing.T) {
	for _, code := range []int{api.CodeNone, api.CodeOther, api.CodeHandle + 1, -1, 99, math.MaxInt, math.MinInt} {
		if got := Of(code); got != nil {
			t.Errorf("Of(%d): %v, want nil", code, got)
		}
	}
}

// P2.2

func TestWrappersOfNil(t *testing.T) {
	for _, k := range kinds() {
		if got := k.wrap(nil); got != nil {
			t.Errorf("%s of nil: %v", k.name, got)
		}
	}
	if got := Named(nil); got != nil {
		t.Errorf("Named of nil, without names: %v", got)
	}
}

func TestWrappersSayWhatTheyAreGiven(t *testing.T) {
	for _, n := range []int{0, 1, -1, -4, 65536, math.MaxInt, math.MinInt} {
		wantTell(t, "Place", Place(ErrSyntax, n), api.Fault{Code: api.CodeSyntax, At: n})
		wantTell(t, "InRule", InRule(ErrTrail, n), api.Fault{Code: api.CodeTrail, Rule: n})
		wantTell(t, "InStage", InStage(ErrDeep, n), api.Fault{Code: api.CodeDeep, Stage: n})
	}
	for _, l := range [][]string{nil, {}, {""}, {"a"}, {"a", "a"}, {"", ""}, {"a, b", "c"}, {"\x00\xff\n", "long name that is no name"}} {
		wantTell(t, "Named", Named(ErrName, l...), api.Fault{Code: api.CodeName, Names: l})
	}
}

func TestNamesAreTheErrorsOwn(t *testing.T) {
	room := []string{"a", "b", "behind"}
	err := Named(ErrDefCycle, room[:2]...)
	if room[2] != "behind" {
		t.Errorf("written behind the list's length: %q", room)
	}
	room[0], room[1] = "spoilt", "spoilt"
	wantTell(t, "the caller's list written over", err, api.Fault{Code: api.CodeDefCycle, Names: []string{"a", "b"}})
	wantText(t, "the caller's list written over", err, "a, b: definition cycle")
	if err := Named(err, room[1:]...); !slices.Equal(room, []string{"spoilt", "spoilt", "behind"}) || Tell(err).Names[1] != "behind" {
		t.Errorf("names handed in were changed: %q", room)
	}
}

// P2.3

func TestIsAndUnwrap(t *testing.T) {
	under := []error{ErrLong, ErrHandle, errElse, lists{}, around{ErrArg}, bomb{}, &pointer{"p"}, (*pointer)(nil)}
	for _, k := range kinds() {
		for i, e := range under {
			w := k.wrap(e)
			if w == e || w == nil {
				t.Errorf("%s of %d does not wrap", k.name, i)
			}
			if got := errors.Unwrap(w); reflect.TypeOf(got) != reflect.TypeOf(e) {
				t.Errorf("%s of %d: Unwrap: %T", k.name, i, got)
			}
			if !errors.Is(w, w) {
				t.Errorf("%s of %d: is not itself", k.name, i)
			}
		}
		for _, e := range []error{ErrLong, ErrHandle, errElse, around{ErrArg}} {
			if w := k.wrap(e); errors.Unwrap(w) != e || !errors.Is(w, e) {
				t.Errorf("%s of %v: Is, Unwrap", k.name, e)
			}
		}
	}
}

// TestIsGoesThroughAll: each error on the way down is one that is wrapped, wherever it stands.
func TestIsGoesThroughAll(t *testing.T) {
	for _, c := range coded() {
		var chain []error
		e := c.err
		chain = append(chain, e)
		for range 3 {
			for _, k := range kinds() {
				e = k.wrap(e)
				chain = append(chain, e)
			}
			e = around{e}
			chain = append(chain, e)
		}
		for i, w := range chain {
			for j, below := range chain {
				if got := errors.Is(w, below); got != (j <= i) {
					t.Errorf("code %d: Is of %d and %d: %v", c.code, i, j, got)
				}
			}
			for _, d := range coded() {
				if got := errors.Is(w, d.err); got != (d.code == c.code) {
					t.Errorf("code %d: Is of %d and the error of %d: %v", c.code, i, d.code, got)
				}
			}
		}
	}
}

func TestUnwrapStepByStep(t *testing.T) {
	w := InStage(InRule(Place(Named(errElse, "a"), 1), 2), 3)
	for range 4 {
		if w == errElse {
			t.Fatal("too few wrappers")
		}
		w = errors.Unwrap(w)
	}
	if w != errElse {
		t.Errorf("Unwrap, four times: %v", w)
	}
}

// P2.4

func TestTell(t *testing.T) {
	cases := []struct {
		name string
		err  error
		want api.Fault
	}{
		{"nil", nil, api.Fault{}},
		{"of the chapter: place and stage", InStage(Place(ErrSyntax, 7), 1), api.Fault{Code: api.CodeSyntax, Stage: 1, At: 7}},
		{"of the chapter: the outermost place", Place(Place(ErrName, 3), 9), api.Fault{Code: api.CodeName, At: 9}},
		{"somebody else's", errElse, api.Fault{Code: api.CodeOther}},
		{"somebody else's, wrapped", InRule(Named(errElse, "x"), -4), api.Fault{Code: api.CodeOther, Rule: -4, Names: []string{"x"}}},
		{"the outermost rule", InRule(InStage(InRule(ErrTrail, 1), 4), 2), api.Fault{Code: api.CodeTrail, Rule: 2, Stage: 4}},
		{"the outermost stage", InStage(InStage(ErrArg, 5), 6), api.Fault{Code: api.CodeArg, Stage: 6}},
		{"the outermost names, which are none", Named(Named(ErrName, "a")), api.Fault{Code: api.CodeName}},
		{"the outermost names", Named(Place(Named(ErrName, "a", "b"), 1), "c"), api.Fault{Code: api.CodeName, At: 1, Names: []string{"c"}}},
		{"the outermost place, which is 0", Place(Place(ErrName, 3), 0), api.Fault{Code: api.CodeName}},
		{"through somebody else's", around{Place(around{InRule(ErrDeep, 2)}, 5)}, api.Fault{Code: api.CodeDeep, At: 5, Rule: 2}},
		{"a place above somebody else's", Place(around{Place(ErrDeep, 5)}, 6), api.Fault{Code: api.CodeDeep, At: 6}},
		{"somebody else's of fmt", fmt.Errorf("more: %w", Place(ErrDeep, 2)), api.Fault{Code: api.CodeDeep, At: 2}},
		{"somebody else's that has our words", errors.New("syntax"), api.Fault{Code: api.CodeOther}},
		{"what wraps by Is and As", hidden{Named(Place(ErrMany, 8), "n")}, api.Fault{Code: api.CodeMany, At: 8, Names: []string{"n"}}},
		{"what says that it is ErrName", Place(likeName{}, 1), api.Fault{Code: api.CodeName, At: 1}},
	}
	for _, c := range cases {
		wantTell(t, c.name, c.err, c.want)
	}
}

func TestTellOfEachCode(t *testing.T) {
	for _, c := range coded() {
		wantTell(t, c.words, c.err, api.Fault{Code: c.code})
		wantTell(t, c.words+", wrapped", InStage(Place(c.err, 4), 1), api.Fault{Code: c.code, At: 4, Stage: 1})
	}
}

// TestCodeIsTheFirstInTheOrderOfCodes: not the first that stands in the error.
func TestCodeIsTheFirstInTheOrderOfCodes(t *testing.T) {
	for _, a := range coded() {
		for _, b := range coded() {
			want := min(a.code, b.code)
			wantTell(t, "two joined", errors.Join(errElse, a.err, b.err), api.Fault{Code: want})
			wantTell(t, "two, one deeper", errors.Join(Place(InRule(a.err, 1), 2), b.err), api.Fault{Code: want, At: 2, Rule: 1})
		}
	}
}

// TestTellOfSeveral: what wraps several is gone through as errors.As does: the first, and all below it, ahead of the second.
func TestTellOfSeveral(t *testing.T) {
	cases := []struct {
		name string
		err  error
		want api.Fault
	}{
		{"the first of two", errors.Join(Place(ErrName, 3), Place(ErrLong, 4)), api.Fault{Code: api.CodeLong, At: 3}},
		{"deep in the first, ahead of the second", errors.Join(around{InRule(Place(ErrName, 3), 1)}, Place(InRule(ErrArg, 2), 4)), api.Fault{Code: api.CodeName, At: 3, Rule: 1}},
		{"each from another one", fmt.Errorf("%w, %w, %w", errElse, InRule(errElse, 5), Named(ErrHandle, "h")), api.Fault{Code: api.CodeHandle, Rule: 5, Names: []string{"h"}}},
		{"with one above all", InStage(errors.Join(InStage(ErrDeep, 1), Place(ErrMany, 2)), 3), api.Fault{Code: api.CodeDeep, Stage: 3, At: 2}},
	}
	for _, c := range cases {
		wantTell(t, c.name, c.err, c.want)
	}
}

// P2.5

func TestText(t *testing.T) {
	cases := []struct {
		name string
		err  error
		want string
	}{
		{"nil", nil, ""},
		{"of the chapter: place and stage", InStage(Place(ErrSyntax, 7), 1), "stage 1: at 7: syntax"},
		{"of the chapter: two names", Named(ErrDefCycle, "a", "b"), "a, b: definition cycle"},
		{"of the chapter: no names", Named(ErrName), ": name"},
		{"one name", Named(ErrName, "a"), "a: name"},
		{"three names", Named(ErrName, "a", "b", "c"), "a, b, c: name"},
		{"names of nothing", Named(ErrName, "", ""), ", : name"},
		{"a rule", InRule(ErrTrail, 12), "rule 12: trailing context"},
		{"all places, outermost first", Place(Place(ErrName, 3), 9), "at 9: at 3: name"},
		{"nought", InStage(InRule(Place(ErrArg, 0), 0), 0), "stage 0: rule 0: at 0: argument"},
		{"below nought", InStage(InRule(Place(ErrArg, -1), -20), -300), "stage -300: rule -20: at -1: argument"},
		{"the greatest and the least", Place(InRule(ErrArg, math.MinInt), math.MaxInt), "at 9223372036854775807: rule -9223372036854775808: argument"},
		{"somebody else's", errElse, "else"},
		{"somebody else's, wrapped", Place(Named(errElse, "x"), 1), "at 1: x: else"},
		{"somebody else's above ours", around{Place(ErrArg, 1)}, "around"},
		{"somebody else's between", InRule(around{Place(ErrArg, 1)}, 2), "rule 2: around"},
		{"somebody else's of fmt", fmt.Errorf("more: %w", Place(ErrDeep, 2)), "more: at 2: too deep"},
		{"several", InStage(errors.Join(Place(ErrLong, 1), errElse), 6), "stage 6: at 1: too long\nelse"},
		{"of no words", Place(errors.New(""), 5), "at 5: "},
	}
	for _, c := range cases {
		wantText(t, c.name, c.err, c.want)
	}
	for _, c := range coded() {
		wantText(t, c.words, c.err, c.words)
	}
}

func TestTextHasTheWordsOfWhatIsWrapped(t *testing.T) {
	for _, k := range kinds() {
		for _, l := range kinds() {
			e := l.wrap(ErrImage)
			wantText(t, k.name+" of "+l.name, k.wrap(e), k.text+Text(e))
			wantText(t, k.name+" of "+l.name, k.wrap(e), k.text+l.text+"image")
		}
	}
}

// P2.6

// orders: all orders of 0 to n - 1.
func orders(n int) [][]int {
	if n == 0 {
		return [][]int{{}}
	}
	var l [][]int
	for _, o := range orders(n - 1) {
		for i := range n {
			l = append(l, slices.Insert(slices.Clone(o), i, n-1))
		}
	}
	return l
}

func TestWrappersInAnyOrder(t *testing.T) {
	all := append(kinds(), kind{"around", func(e error) error { return around{e} }, func(*api.Fault) {}, ""})
	for _, err := range []error{ErrLong, ErrHandle, errElse, fmt.Errorf("%w", ErrTrail)} {
		for _, o := range orders(len(all)) {
			w, want := err, Tell(err)
			for _, i := range o {
				w = all[i].wrap(w)
				all[i].set(&want)
				wantTell(t, fmt.Sprintf("wrapped in the order %v", o), w, want)
			}
			if want.Code != Code(err) || want.At != 7 || want.Rule != 3 || want.Stage != 2 || len(want.Names) != 2 {
				t.Fatalf("not all was said: %+v", want)
			}
		}
	}
}

// TestWrappersChangeJustWhatTheySay: over an error that says all already.
func TestWrappersChangeJustWhatTheySay(t *testing.T) {
	full := Named(InStage(InRule(Place(ErrCommand, 100), 101), 102), "old")
	for _, k := range kinds() {
		want := Tell(full)
		k.set(&want)
		wantTell(t, k.name, k.wrap(full), want)
	}
	wantTell(t, "what was wrapped", full, api.Fault{Code: api.CodeCommand, At: 100, Rule: 101, Stage: 102, Names: []string{"old"}})
}

// P2.7

func TestNamesToldAreNew(t *testing.T) {
	err := InRule(Named(ErrDefCycle, "a", "b"), 1)
	first, second := Tell(err).Names, Tell(err).Names
	spoil(first)
	if !slices.Equal(second, []string{"a", "b"}) {
		t.Errorf("two lists share memory: %q", second)
	}
	spoil(second)
	wantTell(t, "lists that were told written over", err, api.Fault{Code: api.CodeDefCycle, Rule: 1, Names: []string{"a", "b"}})
	wantText(t, "lists that were told written over", err, "rule 1: a, b: definition cycle")
}

// spoil writes over a list, and over what room it has behind its length.
func spoil(l []string) {
	l = l[:cap(l)]
	for i := range l {
		l[i] = "spoilt"
	}
}

// TestErrorsKeepToThemselves: two errors with the same words are two.
func TestErrorsKeepToThemselves(t *testing.T) {
	for _, k := range kinds() {
		a, b := k.wrap(ErrArg), k.wrap(ErrArg)
		if errors.Is(a, b) || errors.Is(b, a) {
			t.Errorf("%s: one wraps the other", k.name)
		}
		if outer := k.wrap(a); !errors.Is(outer, a) || errors.Is(a, outer) || errors.Is(outer, b) {
			t.Errorf("%s: of one of two", k.name)
		}
	}
}

// TestErrorsOfAnybody: whatever an error's own methods do, no call panics.
func TestErrorsOfAnybody(t *testing.T) {
	cases := []struct {
		name string
		err  error
		code int
		text string
	}{
		{"a bomb", bomb{}, api.CodeOther, ""},
		{"around a bomb", around{bomb{}}, api.CodeOther, "around"},
		{"nil, as a pointer", (*pointer)(nil), api.CodeOther, ""},
		{"a liar", liar{}, api.CodeOther, "liar"},
		{"not to be compared", lists{[]error{ErrArg}}, api.CodeOther, "lists"},
		{"around what is not to be compared", around{lists{}}, api.CodeOther, "around"},
		{"around nil", around{nil}, api.CodeOther, "around"},
		{"said by Is alone", likeName{}, api.CodeName, "like name"},
	}
	for _, c := range cases {
		wantTell(t, c.name, c.err, api.Fault{Code: c.code})
		if got := Text(c.err); got != c.text {
			t.Errorf("%s: Text: %q, want %q", c.name, got, c.text)
		}
		w := InStage(InRule(Named(Place(c.err, 1), "n"), 2), 3)
		wantTell(t, c.name+", wrapped", w, api.Fault{Code: c.code, At: 1, Rule: 2, Stage: 3, Names: []string{"n"}})
		wantText(t, c.name+", wrapped", w, "stage 3: rule 2: n: at 1: "+c.text)
	}
}

// TestDeep: as many parts in one another as the document's bound allows.
func TestDeep(t *testing.T) {
	const depth = 1 << 16
	w := error(ErrHandle)
	for i := range depth {
		switch i % 4 {
		case 0:
			w = Place(w, i)
		case 1:
			w = Named(w, "n")
		case 2:
			w = InRule(w, i)
		case 3:
			w = InStage(w, i)
		}
	}
	wantTell(t, "deep", w, api.Fault{Code: api.CodeHandle, At: depth - 4, Rule: depth - 2, Stage: depth - 1, Names: []string{"n"}})
	text := Text(w)
	if n := strings.Count(text, ": "); n != depth || !strings.HasPrefix(text, "stage 65535: rule 65534: n: at 65532: ") || !strings.HasSuffix(text, "rule 2: n: at 0: handle") {
		t.Errorf("deep: %d parts, %d bytes", n, len(text))
	}
	if w.Error() != text {
		t.Error("deep: Error and Text are unlike")
	}
}

// TestDeepOfSeveral: joined ones in one another, each with a part that says something.
func TestDeepOfSeveral(t *testing.T) {
	w := error(Place(ErrClosed, 1))
	for i := range 1 << 12 {
		w = errors.Join(around{errElse}, w, InRule(errElse, i))
	}
	wantTell(t, "deep", w, api.Fault{Code: api.CodeClosed, At: 1, Rule: 0})
	wantTell(t, "deep, and a rule", InRule(w, 9), api.Fault{Code: api.CodeClosed, At: 1, Rule: 9})
}

// TestManyNames: a list as long as one likes.
func TestManyNames(t *testing.T) {
	l := make([]string, 1<<16)
	for i := range l {
		l[i] = "x"
	}
	err := Named(ErrMany, l...)
	if got := Tell(err).Names; !slices.Equal(got, l) {
		t.Errorf("%d names, want %d", len(got), len(l))
	}
	if got, want := Text(err), strings.Repeat("x, ", len(l)-1)+"x: too many"; got != want {
		t.Errorf("text of %d bytes, want %d", len(got), len(want))
	}
}

// TestAskedAgain: an answer hangs on the error alone, and asking changes nothing.
func TestAskedAgain(t *testing.T) {
	err := InStage(Named(Place(ErrName, 5), "q"), api.StageNames)
	for range 3 {
		wantTell(t, "again", err, api.Fault{Code: api.CodeName, At: 5, Names: []string{"q"}, Stage: api.StageNames})
		wantText(t, "again", err, "stage 2: q: at 5: name")
		Tell(Place(err, 77))
		Tell(Named(ErrArg, "other"))
	}
}
