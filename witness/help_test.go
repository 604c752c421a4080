package witness_test

import (
	"cmp"
	"errors"
	"fmt"
	"maps"
	"reflect"
	"slices"
	"strconv"
	"strings"
	"testing"

	"bolter/api"
	"bolter/fault"
	"bolter/samples"
	"bolter/witness"
)

// What tests are tried on, by short names.
var (
	byTwo, ringOf = samples.ByTwo, samples.Ring
	upTo, shown   = samples.UpTo, samples.DenseText
	inOrder       = samples.InOrder
	labelBehind   = samples.LabelBehind
)

// chance makes what tests are tried on of a row of numbers.
type chance struct{ samples.Chance }

func (c *chance) rules(deep int) []api.Core {
	return c.Rules(4, deep, "", "a", "b", "ab", "a\x00", "b\xff")
}

// dense makes an automaton of a few states, of which some may be alike.
func (c *chance) dense(states, labels int) api.Dense {
	d := c.Dense(1+c.Of(states), c.Of(labels+1))
	if c.Of(2) == 0 {
		return d
	}
	d, _ = c.Blown(d, len(d.Next)+c.Of(states))
	return d
}

// ring makes an automaton whose words are long: few states have a label, few bytes lead otherwise than others.
func (c *chance) ring(states int) api.Dense {
	d := ringOf(states, onlyAt(c.Of(states)))
	for range c.Of(4) {
		d.Next[c.Of(states)]["ab\xff"[c.Of(3)]] = c.Of(states)
	}
	return d
}

// onlyAt gives one state the label 0, the others none.
func onlyAt(at int) func(s int) int {
	return func(s int) int {
		if s == at {
			return 0
		}
		return -1
	}
}

// denseOf tells the automaton of a rule file, as a mode in which all its rules are active has it.
func denseOf(t *testing.T, text string) api.Dense {
	t.Helper()
	l, err := samples.Cores(text)
	if err != nil {
		t.Fatalf("%q: %v", text, err)
	}
	return denseBy(t, l)
}

func denseBy(t *testing.T, l []api.Core) api.Dense {
	t.Helper()
	d, err := samples.Dense(l, upTo(0, len(l)-1)...)
	if err != nil {
		t.Fatalf("%s: %v", short(l), err)
	}
	return d
}

// answer is a word that is told, or none.
type answer struct {
	word  string
	there bool
}

var nothing = answer{}

func word(w string) answer {
	return answer{w, true}
}

// none is what is wanted where there is no word.
const none = "none"

// wanted reads what is wanted: a word, or none.
func wanted(text string) answer {
	if text == none {
		return nothing
	}
	return word(text)
}

func wordOf(t *testing.T, what any, d api.Dense, label int) answer {
	t.Helper()
	w, there, err := witness.Word(d, label)
	return told(t, what, w, there, err)
}

// apartOf asks for the word both ways: which of two states is named first is nothing to it.
func apartOf(t *testing.T, what any, d api.Dense, a, b int) answer {
	t.Helper()
	w, there, err := witness.Apart(d, a, b)
	got := told(t, what, w, there, err)
	w, there, err = witness.Apart(d, b, a)
	if again := told(t, what, w, there, err); again != got {
		t.Errorf("%s: %v of %d and %d, %v of %d and %d", short(what), got, a, b, again, b, a)
	}
	return got
}

// differOf asks both ways, too.
func differOf(t *testing.T, what any, a, b api.Dense) answer {
	t.Helper()
	w, there, err := witness.Differ(a, b)
	got := told(t, what, w, there, err)
	w, there, err = witness.Differ(b, a)
	if again := told(t, what, w, there, err); again != got {
		t.Errorf("%s: %v of the one and the other, %v of the other and the one", short(what), got, again)
	}
	return got
}

func told(t *testing.T, what any, w []byte, there bool, err error) answer {
	t.Helper()
	if err != nil || !there && len(w) > 0 {
		t.Fatalf("%s: %q, %v, %v", short(what), w, there, err)
	}
	return answer{string(w), there}
}

func wantAnswer(t *testing.T, what any, got, want answer) {
	t.Helper()
	if got != want {
		t.Errorf("%s: %q, %v; want %q, %v", short(what), short(got.word), got.there, short(want.word), want.there)
	}
}

func neverOf(t *testing.T, what any, l []api.Dense, rules int) []int {
	t.Helper()
	out, err := witness.Never(l, rules)
	if err != nil {
		t.Fatalf("%s: %v, %v", short(what), out, err)
	}
	return out
}

func wantNever(t *testing.T, what any, l []api.Dense, rules int, want ...int) {
	t.Helper()
	if got := neverOf(t, what, l, rules); !slices.Equal(got, want) {
		t.Errorf("%s: never %v, want %v", short(what), got, want)
	}
}

// wordsOf is what is told when words are ranged over, as a text: a label and its word, each.
func wordsOf(d api.Dense) string {
	var l []string
	for label, w := range witness.Words(d) {
		l = append(l, strconv.Itoa(label)+":"+string(w))
	}
	return strings.Join(l, " ")
}

// wantArgs asks of all calls for CodeArg, with nothing else that it says, and for nothing beside it; of Words for none.
func wantArgs(t *testing.T, what any, d api.Dense) {
	t.Helper()
	for _, label := range []int{-2, -1, 0, 200} {
		wantNoWord(t, what, d, label)
	}
	for _, state := range []int{-1, 0, len(d.Next)} {
		wantNotApart(t, what, d, state, 0)
	}
	one := samples.States(1)
	wantNoDiffer(t, what, d, one)
	wantNoDiffer(t, what, one, d)
	wantNoDiffer(t, what, d, d)
	for _, rules := range []int{-1, 0, 1, 200, 201} {
		for _, l := range [][]api.Dense{{d}, {d, one}, {one, d}, {one, one, d}, {d, d}} {
			wantNoNever(t, what, l, rules)
		}
	}
	if got := wordsOf(d); got != "" {
		t.Errorf("%s: words %q", short(what), got)
	}
}

func wantNoWord(t *testing.T, what any, d api.Dense, label int) {
	t.Helper()
	w, there, err := witness.Word(d, label)
	wantArg(t, what, w, there, err)
}

func wantNotApart(t *testing.T, what any, d api.Dense, a, b int) {
	t.Helper()
	w, there, err := witness.Apart(d, a, b)
	wantArg(t, what, w, there, err)
	w, there, err = witness.Apart(d, b, a)
	wantArg(t, what, w, there, err)
}

func wantNoDiffer(t *testing.T, what any, a, b api.Dense) {
	t.Helper()
	w, there, err := witness.Differ(a, b)
	wantArg(t, what, w, there, err)
}

func wantArg(t *testing.T, what any, w []byte, there bool, err error) {
	t.Helper()
	if len(w) > 0 || there || !isArg(err) {
		t.Errorf("%s: %q, %v, %+v", short(what), w, there, fault.Tell(err))
	}
}

func wantNoNever(t *testing.T, what any, l []api.Dense, rules int) {
	t.Helper()
	if out, err := witness.Never(l, rules); len(out) > 0 || !isArg(err) {
		t.Errorf("%s, %d rules: never %v, %+v", short(what), rules, out, fault.Tell(err))
	}
}

func isArg(err error) bool {
	return reflect.DeepEqual(fault.Tell(err), api.Fault{Code: api.CodeArg}) && errors.Is(err, fault.ErrArg)
}

// firstOf is the first of words for which this is so.
func firstOf(words []string, is func(w string) bool) answer {
	if i := slices.IndexFunc(words, is); i >= 0 {
		return word(words[i])
	}
	return nothing
}

// compareWords reads R5's order of words once more.
func compareWords(a, b string) int {
	return cmp.Or(cmp.Compare(len(a), len(b)), cmp.Compare(a, b))
}

// places tells of each place that words lead to from one on the first such word: whatever leads there by words of one length is held against each other.
func places[P comparable](first P, lead func(from P, b int) P) map[P]string {
	found := map[P]string{first: ""}
	for last := maps.Clone(found); len(last) > 0; {
		next := map[P]string{}
		for from, w := range last {
			for b := range 256 {
				to, longer := lead(from, b), w+string([]byte{byte(b)})
				if _, ok := found[to]; ok {
					continue
				}
				if other, ok := next[to]; !ok || longer < other {
					next[to] = longer
				}
			}
		}
		maps.Copy(found, next)
		last = next
	}
	return found
}

// leastOf is the first word of those that lead to places of which this is so.
func leastOf[P comparable](found map[P]string, is func(place P) bool) answer {
	var words []string
	for place, w := range found {
		if is(place) {
			words = append(words, w)
		}
	}
	if len(words) == 0 {
		return nothing
	}
	return word(slices.MinFunc(words, compareWords))
}

func statesFound(d api.Dense) map[int]string {
	return places(0, func(from, b int) int { return d.Next[from][b] })
}

// wordBy reads P13.1 once more.
func wordBy(d api.Dense, label int) answer {
	return leastOf(statesFound(d), func(s int) bool { return d.Label[s] == label })
}

// partBy reads P13.2 and P13.3 once more: from a state of one automaton on, and from one of another.
func partBy(a, b api.Dense, s, u int) answer {
	found := places([2]int{s, u}, func(from [2]int, by int) [2]int { return [2]int{a.Next[from[0]][by], b.Next[from[1]][by]} })
	return leastOf(found, func(x [2]int) bool { return a.Label[x[0]] != b.Label[x[1]] })
}

// short is the beginning of what may be long.
func short(x any) string {
	text := fmt.Sprintf("%+v", x)
	return text[:min(len(text), 600)]
}
