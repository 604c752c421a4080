package minimise_test

import (
	"errors"
	"fmt"
	"reflect"
	"slices"
	"testing"

	"bolter/api"
	"bolter/fault"
	"bolter/minimise"
	"bolter/samples"
	"bolter/subset"
)

// The parts of expressions, and others, by short names.
var (
	empty, set, cat, alt = samples.Empty, samples.Set, samples.Cat, samples.Alt
	star, plus, maybe    = samples.Star, samples.Plus, samples.Maybe
	rule, upTo           = samples.Rule, samples.UpTo
	shown, foundFrom0    = samples.DenseText, samples.FoundFrom0
	byTwo, ringOf        = samples.ByTwo, samples.Ring
)

// chance makes what tests are tried on of a row of numbers.
type chance struct{ samples.Chance }

func (c *chance) core(deep int) api.Expr {
	return c.Core(deep, "", "a", "b", "ab", "a\x00", "b\xff")
}

func (c *chance) rules(deep int) []api.Core {
	return c.Rules(4, deep, "", "a", "b", "ab", "a\x00", "b\xff")
}

// dense makes a small automaton, of whose states some are alike.
func (c *chance) dense() api.Dense {
	d := c.Dense(1+c.Of(6), c.Of(3))
	if c.Of(3) == 0 {
		return d
	}
	d, _ = c.Blown(d, len(d.Next)+c.Of(8))
	return d
}

// denseOf tells the automaton of a rule file, as a mode with these active rules has it.
func denseOf(t *testing.T, text string, active ...int) api.Dense {
	t.Helper()
	l, err := samples.Cores(text)
	if err != nil {
		t.Fatalf("%q: %v", text, err)
	}
	return denseBy(t, l, active...)
}

func denseBy(t *testing.T, l []api.Core, active ...int) api.Dense {
	t.Helper()
	d, err := samples.Dense(l, active...)
	if err != nil {
		t.Fatalf("%s: %v", short(l), err)
	}
	return d
}

func classesOf(t *testing.T, what any, d api.Dense) []int {
	t.Helper()
	l, err := minimise.Classes(d)
	if err != nil || len(l) != len(d.Next) {
		t.Fatalf("%s: %s, %v", short(what), short(l), err)
	}
	return l
}

// leastOf tells the least automaton, which may be.
func leastOf(t *testing.T, what any, d api.Dense) api.Dense {
	t.Helper()
	l, err := minimise.Least(d)
	if err != nil {
		t.Fatalf("%s: %v", short(what), err)
	}
	if !subset.Check(l) {
		t.Fatalf("%s: %s may not be", short(what), short(shown(l)))
	}
	return l
}

func wantClasses(t *testing.T, what any, d api.Dense, want []int) {
	t.Helper()
	if got := classesOf(t, what, d); !slices.Equal(got, want) {
		t.Errorf("%s: classes %s, want %s", short(what), short(got), short(want))
	}
}

func wantLeast(t *testing.T, what any, d, want api.Dense) {
	t.Helper()
	if got := leastOf(t, what, d); !reflect.DeepEqual(got, want) {
		t.Errorf("%s: %s, want %s", short(what), short(shown(got)), short(shown(want)))
	}
}

// wantArg asks of both calls for CodeArg, with nothing else that it says, and for nothing beside it.
func wantArg(t *testing.T, what any, d api.Dense) {
	t.Helper()
	if l, err := minimise.Classes(d); len(l) > 0 || !isArg(err) {
		t.Errorf("%s: classes %s, %+v", short(what), short(l), fault.Tell(err))
	}
	if l, err := minimise.Least(d); len(l.Next) > 0 || len(l.Label) > 0 || !isArg(err) {
		t.Errorf("%s: %s, %+v", short(what), short(shown(l)), fault.Tell(err))
	}
}

func isArg(err error) bool {
	return reflect.DeepEqual(fault.Tell(err), api.Fault{Code: api.CodeArg}) && errors.Is(err, fault.ErrArg)
}

// apart tells of each two states whether a text tells them apart: of length 0 first, then of one byte more, as long as that tells more.
func apart(d api.Dense) [][]bool {
	l := make([][]bool, len(d.Next))
	for s := range l {
		l[s] = make([]bool, len(d.Next))
		for u := range l[s] {
			l[s][u] = d.Label[s] != d.Label[u]
		}
	}
	for more := true; more; {
		more = false
		for s := range l {
			for u := range l[s] {
				if !l[s][u] && apartBehindAByte(l, d.Next[s], d.Next[u]) {
					l[s][u], more = true, true
				}
			}
		}
	}
	return l
}

func apartBehindAByte(l [][]bool, a, b []int) bool {
	for i, to := range a {
		if l[to][b[i]] {
			return true
		}
	}
	return false
}

// classesBy reads P12.1 once more, by pairs of states.
func classesBy(d api.Dense) []int {
	pairs, count := apart(d), 0
	var l []int
	for s := range pairs {
		least := slices.Index(pairs[s], false)
		if least == s {
			l = append(l, count)
			count++
		} else {
			l = append(l, l[least])
		}
	}
	return l
}

// leastBy reads P12.2 once more: classes are numbered as the first of their states are found, since what is like a state that was found leads to no other classes.
func leastBy(d api.Dense, classes []int) api.Dense {
	var order []int
	for _, s := range foundFrom0(d) {
		if !slices.Contains(order, classes[s]) {
			order = append(order, classes[s])
		}
	}
	var l api.Dense
	for _, class := range order {
		least := slices.Index(classes, class)
		var row []int
		for _, to := range d.Next[least] {
			row = append(row, slices.Index(order, classes[to]))
		}
		l.Next, l.Label = append(l.Next, row), append(l.Label, d.Label[least])
	}
	return l
}

// wantFormal asks of both calls for what the second readings tell.
func wantFormal(t *testing.T, what any, d api.Dense) {
	t.Helper()
	classes := classesBy(d)
	wantClasses(t, what, d, classes)
	wantLeast(t, what, d, leastBy(d, classes))
}

// short is the beginning of what may be long.
func short(x any) string {
	text := fmt.Sprintf("%+v", x)
	return text[:min(len(text), 600)]
}
