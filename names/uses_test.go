package names

import (
	"slices"
	"strconv"
	"testing"

	"bolter/api"
)

// P6.1

func TestUsesOfWhatIsRead(t *testing.T) {
	for text, want := range map[string][]string{
		`{b} {c} {b}`:                     {"b", "c"},
		`{b}`:                             {"b"},
		`()`:                              nil,
		`"{b}" [{}] "x"{2}`:               nil,
		`{z} | {a} | {m}`:                 {"z", "a", "m"},
		`{b}{2,3}? {a}*`:                  {"b", "a"},
		`(({c} {b})* | {a})+ {d}`:         {"c", "b", "a", "d"},
		`{a} ({a} | {b} ({b} | {a} {c}))`: {"a", "b", "c"},
		`"a" {A} [a] {a} {_} {aa}`:        {"A", "a", "_", "aa"},
	} {
		wantUses(t, text, parsed(t, "let d = "+text).Defs[0].Expr, want...)
	}
}

// Whatever an expression is: of what may not be, too.
func TestUsesOfAny(t *testing.T) {
	with := func(e api.Expr, args ...api.Expr) api.Expr {
		e.Args = args
		return e
	}
	wantUses(t, "nothing", api.Expr{})
	wantUses(t, "no name", ref(""), "")
	wantUses(t, "no names", cat(ref(""), ref("a"), ref("")), "", "a")
	wantUses(t, "no proper names", cat(ref("1 \xff"), ref("é"), ref("1 \xff")), "1 \xff", "é")
	wantUses(t, "ahead of its arguments", with(ref("a"), ref("b"), with(ref("c"), ref("d"), ref("a")), ref("e")), "a", "b", "c", "d", "e")
	wantUses(t, "arguments of none alike", with(ref("b"), ref("b"), ref("a"), ref("b")), "b", "a")
	wantUses(t, "texts of other kinds", cat(api.Expr{Op: api.OpWord, Text: "a"}, api.Expr{Op: api.OpSet, Text: "b"}, api.Expr{Op: api.OpEmpty, Text: "c"}, api.Expr{Text: "d"}, ref("e")), "e")
	for _, op := range []int{-1 << 63, -1, 0, 1, 2, 3, 4, 5, 6, 7, 8, 1<<32 + api.OpRef, 1<<63 - 1} {
		e := api.Expr{Op: op, At: -5, Text: "x", Min: 1 << 62, Max: -9, Args: []api.Expr{ref("y"), {Op: op, Args: []api.Expr{ref("z"), ref("y")}}}}
		want := []string{"y", "z"}
		if op == api.OpRef {
			want = []string{"x", "y", "", "z"}
		}
		wantUses(t, op, e, want...)
	}
	for _, e := range []api.Expr{cat(), alt(), cat(ref("y")), {Op: api.OpRepeat}, {Op: api.OpCat, Args: []api.Expr{}}} {
		wantUses(t, e, e, usesOf(e)...)
	}
}

func TestUsesOfDeepAndWide(t *testing.T) {
	wantUses(t, "deep", nested(ref("a"), 1<<16-2), "a")
	e := ref("x0")
	var want []string
	for i := range 3000 {
		name := "x" + strconv.Itoa(i%2000+1)
		e = cat(ref(name), e)
		want = append(want, name)
	}
	slices.Reverse(want)
	wantUses(t, "deep, with names", e, append(want[:2000:2000], "x0")...)
	var args []api.Expr
	want = nil
	for i := range 1 << 17 {
		args = append(args, ref(strconv.Itoa(i%70000)))
		want = append(want, strconv.Itoa(i%70000))
	}
	wantUses(t, "wide", alt(args...), want[:70000]...)
}

// usesOf reads an expression a second way: all that stand in it, of those each first one.
func usesOf(e api.Expr) []string {
	var out []string
	for todo := []api.Expr{e}; len(todo) > 0; {
		x := todo[0]
		todo = slices.Concat(x.Args, todo[1:])
		if x.Op == api.OpRef && !slices.Contains(out, x.Text) {
			out = append(out, x.Text)
		}
	}
	return out
}

func (c *chance) expr(deep int) api.Expr {
	e := api.Expr{Op: c.of(9) - 1, At: c.of(3) - 1, Text: []string{"", "a", "b", "c", "d0"}[c.of(5)]}
	if c.of(2) == 0 {
		e.Op = api.OpRef
	}
	for deep > 0 && len(e.Args) < 5 && c.of(4) > 0 {
		e.Args = append(e.Args, c.expr(deep-1))
	}
	return e
}

func TestUsesOfMade(t *testing.T) {
	c := chance(3)
	for range 20000 {
		e := c.expr(c.of(5))
		wantUses(t, e, e, usesOf(e)...)
	}
}
