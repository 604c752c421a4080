package follow_test

import (
	"reflect"
	"slices"
	"testing"

	"bolter/api"
	"bolter/byteset"
	"bolter/match"
)

// P10.2

// formal reads the definition once more, pair by pair.
type formal struct {
	count   int
	follows map[[2]int]bool
}

type ends struct {
	nullable    bool
	first, last []int
}

func (f *formal) of(e api.Expr) ends {
	var args []ends
	if e.Op == api.OpSet {
		f.count++
		return ends{false, []int{f.count - 1}, []int{f.count - 1}}
	}
	for _, a := range e.Args {
		args = append(args, f.of(a))
	}
	switch e.Op {
	case api.OpCat:
		return f.cat(args)
	case api.OpAlt:
		return f.alt(args)
	case api.OpRepeat:
		if e.Max == -1 {
			f.pair(args[0].last, args[0].first)
		}
		return ends{args[0].nullable || e.Min == 0, args[0].first, args[0].last}
	}
	return ends{nullable: true}
}

func (f *formal) cat(args []ends) ends {
	all := ends{nullable: allNullable(args)}
	for i, a := range args {
		if allNullable(args[:i]) {
			all.first = append(all.first, a.first...)
		}
		if allNullable(args[i+1:]) {
			all.last = append(all.last, a.last...)
		}
		for j := range i {
			if allNullable(args[j+1 : i]) {
				f.pair(args[j].last, a.first)
			}
		}
	}
	return all
}

func (f *formal) alt(args []ends) ends {
	var all ends
	for _, a := range args {
		all = ends{all.nullable || a.nullable, append(all.first, a.first...), append(all.last, a.last...)}
	}
	return all
}

func (f *formal) pair(from, to []int) {
	for _, p := range from {
		for _, q := range to {
			f.follows[[2]int{p, q}] = true
		}
	}
}

func allNullable(l []ends) bool {
	return !slices.ContainsFunc(l, func(e ends) bool { return !e.nullable })
}

// formally tells the rows of all places by the definition.
func formally(l []api.Core) api.Follow {
	f := formal{follows: map[[2]int]bool{}}
	var told api.Follow
	var of []ends
	for r, c := range l {
		begin := f.count
		of = append(of, f.of(exprOf(c)))
		told.Rules = append(told.Rules, slices.Repeat([]int{r}, f.count-begin)...)
	}
	for r, e := range of {
		told.First = append(told.First, placesBy(f.count, r, e.nullable, func(q int) bool { return slices.Contains(e.first, q) }))
	}
	for p, r := range told.Rules {
		told.Next = append(told.Next, placesBy(f.count, r, slices.Contains(of[r].last, p), func(q int) bool { return f.follows[[2]int{p, q}] }))
	}
	return told
}

func exprOf(c api.Core) api.Expr {
	if c.HasTrail {
		return cat(c.Head, c.Trail)
	}
	return c.Head
}

func placesBy(count, rule int, end bool, has func(q int) bool) []int {
	var l []int
	for q := range count {
		if has(q) {
			l = append(l, q)
		}
	}
	if end {
		l = append(l, count+rule)
	}
	return l
}

func TestSmallCoresFormally(t *testing.T) {
	for _, e := range small() {
		l := []api.Core{rule(e)}
		wantRows(t, e, l, rowsOf(formally(l)))
	}
}

func TestSmallRulesFormally(t *testing.T) {
	parts := []api.Expr{empty(), set(""), set("a"), maybe(set("a")), plus(set("b")), star(set("b")), cat(set("a"), maybe(set("b"))), alt(empty(), cat(set("a"), set("b")))}
	for _, e := range parts {
		for _, f := range parts {
			for _, l := range [][]api.Core{{rule(e), rule(f)}, {trailed(e, f)}, {trailed(e, f), rule(e), trailed(f, e)}, {rule(f), trailed(e, e)}} {
				wantRows(t, l, l, rowsOf(formally(l)))
			}
		}
	}
}

func TestRulesByChanceFormally(t *testing.T) {
	c := chance{1}
	most := 0
	for range 10000 {
		l := c.rules(4)
		wantRows(t, l, l, rowsOf(formally(l)))
		most = max(most, len(built(t, l, l).Sets))
	}
	if most < 60 {
		t.Errorf("at most %d positions", most)
	}
}

// marked is an expression in which each position reads a byte of its own.
func marked(e api.Expr, next *byte) api.Expr {
	if e.Op == api.OpSet {
		e.Set = byteset.Of(*next)
		*next++
	}
	e.Args = slices.Clone(e.Args)
	for i, a := range e.Args {
		e.Args[i] = marked(a, next)
	}
	return e
}

// byWords tells the rows of one rule of at most 256 positions by the words of its marked expression: behind all texts that end with one position the same ones may stand.
func byWords(t *testing.T, c api.Core) (first []int, next [][]int) {
	t.Helper()
	var count byte
	e := marked(exprOf(c), &count)
	next = make([][]int, count)
	var todo [][]byte
	behind := func(text []byte) []int {
		set, err := match.Next(e, text)
		ends, fail := match.Ends(e, text)
		if err != nil || fail != nil {
			t.Fatalf("%s: %v, %v", short(e), err, fail)
		}
		for _, b := range byteset.List(set) {
			if next[b] == nil {
				next[b] = []int{}
				todo = append(todo, append(slices.Clone(text), b))
			}
		}
		return placesBy(int(count), 0, slices.Contains(ends, len(text)), func(q int) bool { return byteset.Has(set, byte(q)) })
	}
	first = behind(nil)
	for i := 0; i < len(todo); i++ {
		next[todo[i][len(todo[i])-1]] = behind(todo[i])
	}
	return first, next
}

func wantWords(t *testing.T, c api.Core) {
	t.Helper()
	f := built(t, c, []api.Core{c})
	if first, next := byWords(t, c); !slices.Equal(f.First[0], first) || len(f.Next) > 0 && !reflect.DeepEqual(f.Next, next) {
		t.Errorf("%s: %v, %v; by words %v, %v", short(c), f.First[0], f.Next, first, next)
	}
}

func TestSmallCoresByTheirRows(t *testing.T) {
	for _, e := range small() {
		wantWords(t, rule(e))
	}
}

func TestRulesByChanceByTheirRows(t *testing.T) {
	c := chance{2}
	for range 1000 {
		for _, r := range c.rules(4) {
			wantWords(t, r)
		}
	}
}
