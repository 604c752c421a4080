package census_test

import (
	"errors"
	"fmt"
	"math/big"
	"reflect"
	"slices"
	"testing"

	"bolter/api"
	"bolter/census"
	"bolter/fault"
	"bolter/samples"
)

// What tests are tried on, by short names.
var (
	byTwo, ringOf = samples.ByTwo, samples.Ring
	upTo, shown   = samples.UpTo, samples.DenseText
	inOrder       = samples.InOrder
)

// chance makes what tests are tried on of a row of numbers.
type chance struct{ samples.Chance }

func (c *chance) rules() []api.Core {
	return c.Rules(3, 3, "", "a", "b", "ab", "a\x00", "b\xff")
}

// dense makes an automaton of a few states; of some, words of most lengths have few bytes.
func (c *chance) dense(states, labels int) api.Dense {
	d := c.Dense(1+c.Of(states), labels)
	if c.Of(2) == 0 {
		return d
	}
	d.Label[len(d.Label)-1] = -1
	for _, row := range d.Next {
		for b := range row {
			if b%97 > c.Of(3) {
				row[b] = len(d.Next) - 1
			}
		}
	}
	return d
}

// place makes a number, small or great.
func (c *chance) place() uint64 {
	return uint64(c.Of(1<<31))<<33>>c.Of(63) + uint64(c.Of(1<<20)>>c.Of(20))
}

// denseOf tells the automaton of a rule file, as a mode in which all its rules are active has it.
func denseOf(t *testing.T, text string) api.Dense {
	t.Helper()
	l, err := samples.Cores(text)
	if err != nil {
		t.Fatalf("%q: %v", text, err)
	}
	return denseBy(t, l)
}

func denseBy(t *testing.T, l []api.Core) api.Dense {
	t.Helper()
	d, err := samples.Dense(l, upTo(0, len(l)-1)...)
	if err != nil {
		t.Fatalf("%s: %v", short(l), err)
	}
	return d
}

// number is one that Count or Rank tells.
type number struct {
	n  uint64
	ok bool
}

func exactly(n uint64) number {
	return number{n, true}
}

var (
	tooMany = number{1<<64 - 1, false} // of Count
	no      = number{}                 // of Rank
)

// answer is a word that is told, or none.
type answer struct {
	word  string
	there bool
}

var nothing = answer{}

func word(w string) answer {
	return answer{w, true}
}

func countOf(t *testing.T, what any, d api.Dense, label, n int) number {
	t.Helper()
	count, all, err := census.Count(d, label, n)
	if err != nil {
		t.Fatalf("%s: count of %d, %d bytes: %v", short(what), label, n, err)
	}
	return number{count, all}
}

func nthOf(t *testing.T, what any, d api.Dense, label int, k uint64) answer {
	t.Helper()
	w, there, err := census.Nth(d, label, k)
	if err != nil || !there && len(w) > 0 {
		t.Fatalf("%s: word %d of %d: %q, %v, %v", short(what), k, label, w, there, err)
	}
	return answer{string(w), there}
}

func rankOf(t *testing.T, what any, d api.Dense, label int, w string) number {
	t.Helper()
	k, there, err := census.Rank(d, label, []byte(w))
	if err != nil {
		t.Fatalf("%s: rank of %q, label %d: %v", short(what), w, label, err)
	}
	return number{k, there}
}

func wantCount(t *testing.T, what any, d api.Dense, label, n int, want number) {
	t.Helper()
	if got := countOf(t, what, d, label, n); got != want {
		t.Errorf("%s: count of %d, %d bytes: %v, want %v", short(what), label, n, got, want)
	}
}

func wantNth(t *testing.T, what any, d api.Dense, label int, k uint64, want answer) {
	t.Helper()
	if got := nthOf(t, what, d, label, k); got != want {
		t.Errorf("%s: word %d of %d: %q, %v; want %q, %v", short(what), k, label, got.word, got.there, want.word, want.there)
	}
}

func wantRank(t *testing.T, what any, d api.Dense, label int, w string, want number) {
	t.Helper()
	if got := rankOf(t, what, d, label, w); got != want {
		t.Errorf("%s: rank of %q, label %d: %v, want %v", short(what), w, label, got, want)
	}
}

// wantWords asks for a label's words, from the first on, by their places, and for the places by the words.
func wantWords(t *testing.T, what any, d api.Dense, label int, words []string) {
	t.Helper()
	for k, w := range words {
		wantNth(t, what, d, label, uint64(k), word(w))
		wantRank(t, what, d, label, w, exactly(uint64(k)))
	}
}

// wantNoCount, wantNoNth and wantNoRank ask for CodeArg, with nothing else that it says, and for nothing beside it.
func wantNoCount(t *testing.T, what any, d api.Dense, label, n int) {
	t.Helper()
	if count, all, err := census.Count(d, label, n); count != 0 || all || !isArg(err) {
		t.Errorf("%s: count of %d, %d bytes: %d, %v, %+v", short(what), label, n, count, all, fault.Tell(err))
	}
}

func wantNoNth(t *testing.T, what any, d api.Dense, label int, k uint64) {
	t.Helper()
	if w, there, err := census.Nth(d, label, k); len(w) > 0 || there || !isArg(err) {
		t.Errorf("%s: word %d of %d: %q, %v, %+v", short(what), k, label, w, there, fault.Tell(err))
	}
}

func wantNoRank(t *testing.T, what any, d api.Dense, label int, w []byte) {
	t.Helper()
	if k, there, err := census.Rank(d, label, w); k != 0 || there || !isArg(err) {
		t.Errorf("%s: rank of %q, label %d: %d, %v, %+v", short(what), short(w), label, k, there, fault.Tell(err))
	}
}

func wantArgs(t *testing.T, what any, d api.Dense, label int) {
	t.Helper()
	for _, n := range []int{-1, 0, 1, 64, 65} {
		wantNoCount(t, what, d, label, n)
	}
	for _, k := range []uint64{0, 1, 1<<64 - 1} {
		wantNoNth(t, what, d, label, k)
	}
	for _, w := range [][]byte{nil, {}, []byte("a"), make([]byte, 64), make([]byte, 65)} {
		wantNoRank(t, what, d, label, w)
	}
}

func isArg(err error) bool {
	return reflect.DeepEqual(fault.Tell(err), api.Fault{Code: api.CodeArg}) && errors.Is(err, fault.ErrArg)
}

// labelBehind is the label behind a word, from the start on.
func labelBehind(d api.Dense, w string) int {
	return samples.LabelBehind(d, 0, w)
}

// allBytes is a text of each byte once.
func allBytes() string {
	var l []byte
	for b := range 256 {
		l = append(l, byte(b))
	}
	return string(l)
}

// numbered is the word at a place among all words.
func numbered(k uint64) string {
	var w []byte
	for ; k > 0; k /= 256 {
		k--
		w = append(w, byte(k))
	}
	slices.Reverse(w)
	return string(w)
}

// ofLabel is those of words that have a label.
func ofLabel(d api.Dense, label int, words []string) []string {
	var l []string
	for _, w := range words {
		if labelBehind(d, w) == label {
			l = append(l, w)
		}
	}
	return l
}

// ways tells by how many words of one length each state is come to, from the start on: numbers of any size.
type ways []*big.Int

func noWays(d api.Dense) ways {
	var x ways
	for range d.Next {
		x = append(x, new(big.Int))
	}
	return x
}

func emptyWord(d api.Dense) ways {
	x := noWays(d)
	x[0].SetInt64(1)
	return x
}

// on tells the ways of words that are longer by a byte.
func (x ways) on(d api.Dense) ways {
	y := noWays(d)
	for s, row := range d.Next {
		times := map[int]int64{}
		for _, to := range row {
			times[to]++
		}
		for to, n := range times {
			y[to].Add(y[to], new(big.Int).Mul(x[s], big.NewInt(n)))
		}
	}
	return y
}

func (x ways) of(d api.Dense, label int) *big.Int {
	sum := new(big.Int)
	for s, n := range x {
		if d.Label[s] == label {
			sum.Add(sum, n)
		}
	}
	return sum
}

// countsBy reads P14.1 once more, for each length.
func countsBy(d api.Dense, label int) []*big.Int {
	var l []*big.Int
	x := emptyWord(d)
	for range 65 {
		l = append(l, x.of(d, label))
		x = x.on(d)
	}
	return l
}

// rankBy reads P14.3 once more: how many words of a label stand ahead of any word at all.
func rankBy(d api.Dense, label int, w string) *big.Int {
	sum := new(big.Int)
	shorter, less, at := emptyWord(d), noWays(d), 0
	for i := range len(w) {
		sum.Add(sum, shorter.of(d, label))
		shorter, less = shorter.on(d), less.on(d)
		for b := range w[i] {
			to := d.Next[at][b]
			less[to].Add(less[to], big.NewInt(1))
		}
		at = d.Next[at][w[i]]
	}
	return sum.Add(sum, less.of(d, label))
}

// kept is a number as Count tells it.
func kept(n *big.Int) number {
	if n.IsUint64() {
		return exactly(n.Uint64())
	}
	return tooMany
}

func total(l []*big.Int) *big.Int {
	sum := new(big.Int)
	for _, n := range l {
		sum.Add(sum, n)
	}
	return sum
}

// wantNthBy asks that the word at a place is one of the label, with so many ahead of it; or that there are no more words than that.
func wantNthBy(t *testing.T, what any, d api.Dense, label int, k uint64) {
	t.Helper()
	place, got := new(big.Int).SetUint64(k), nthOf(t, what, d, label, k)
	if !got.there {
		if sum := total(countsBy(d, label)); sum.Cmp(place) > 0 {
			t.Errorf("%s: no word %d of %d: there are %v", short(what), k, label, sum)
		}
		return
	}
	if labelBehind(d, got.word) != label || len(got.word) > 64 || rankBy(d, label, got.word).Cmp(place) != 0 {
		t.Errorf("%s: word %d of %d: %q, behind which %d is; at place %v", short(what), k, label, got.word, labelBehind(d, got.word), rankBy(d, label, got.word))
	}
}

// wantRankBy asks for a word's place, whatever its label is.
func wantRankBy(t *testing.T, what any, d api.Dense, label int, w string) {
	t.Helper()
	want := kept(rankBy(d, label, w))
	if labelBehind(d, w) != label || !want.ok {
		want = no
	}
	wantRank(t, what, d, label, w, want)
}

// short is the beginning of what may be long.
func short(x any) string {
	text := fmt.Sprintf("%+v", x)
	return text[:min(len(text), 600)]
}
