package expand_test

import (
	"math"
	"slices"
	"testing"

	"bolter/api"
	"bolter/byteset"
	"bolter/expand"
)

// P7.2

func wantCheck(t *testing.T, what any, e api.Expr, want bool, size int) {
	t.Helper()
	if got, n := expand.Check(e), expand.Size(e); got != want || n != size {
		t.Errorf("%s: %v, %d; want %v, %d", short(what), got, n, want, size)
	}
}

// What may be, though P7.1 makes none of some of these.
func TestWhatIsACore(t *testing.T) {
	a := set("a")
	for size, l := range map[int][]api.Expr{
		0: {empty(), cat(empty(), empty()), alt(empty(), empty()), times(empty(), 0, -1), times(empty(), 1, -1), times(empty(), 0, 1), alt(cat(empty(), empty()), times(empty(), 0, 1)), {Op: api.OpEmpty, Args: []api.Expr{}}},
		1: {a, set(""), {Op: api.OpSet, Set: byteset.All()}, {Op: api.OpSet, Set: api.Set{0, 0, 0, 1 << 63}}, times(a, 0, -1), times(a, 1, -1), times(a, 0, 1), cat(empty(), a), alt(a, empty()), nested(a, 100)},
		2: {cat(a, a), alt(a, a), cat(cat(empty(), a), alt(empty(), a)), times(times(cat(a, a), 0, 1), 0, 1)},
		3: {cat(a, a, a), alt(a, a, a), alt(times(a, 0, -1), empty(), cat(a, set("b")))},
	} {
		for _, e := range l {
			wantCheck(t, e, e, true, size)
		}
	}
}

func TestWhatIsNoCore(t *testing.T) {
	a := set("a")
	bad := []api.Expr{{}, word("a"), word("ab"), {Op: api.OpWord}, ref("a"), {Op: api.OpRef},
		{Op: api.OpCat}, {Op: api.OpAlt}, cat(a), alt(a), cat(empty()), {Op: api.OpCat, Args: []api.Expr{}},
		{Op: api.OpRepeat, Max: -1}, {Op: api.OpRepeat, Max: -1, Args: []api.Expr{a, a}}, {Op: api.OpRepeat, Max: -1, Args: []api.Expr{}}}
	for _, op := range []int{-1, 8, math.MinInt, math.MaxInt} {
		bad = append(bad, api.Expr{Op: op}, api.Expr{Op: op, Args: []api.Expr{a}}, api.Expr{Op: op, Args: []api.Expr{a, a}})
	}
	for least := -2; least < 4; least++ {
		for most := -2; most < 4; most++ {
			if !(least == 0 && (most == -1 || most == 1) || least == 1 && most == -1) {
				bad = append(bad, times(a, least, most))
			}
		}
	}
	bad = append(bad, times(a, math.MinInt, -1), times(a, math.MaxInt, -1), times(a, 0, math.MinInt), times(a, 0, math.MaxInt))
	// What a kind does not use is zero.
	for _, e := range []api.Expr{empty(), a, set(""), cat(a, a), alt(a, a), times(a, 0, -1), times(a, 1, -1), times(a, 0, 1)} {
		bad = append(bad, spoilt(e)...)
	}
	for i, e := range bad {
		for _, f := range []api.Expr{e, cat(e, a), alt(a, a, e), times(e, 0, 1), cat(a, alt(a, times(e, 0, -1)))} {
			wantCheck(t, []any{i, f}, f, false, 0)
		}
	}
}

// spoilt tells e with one field that is to be zero and isn't.
func spoilt(e api.Expr) []api.Expr {
	var l []api.Expr
	put := func(change func(e *api.Expr)) {
		f := e
		change(&f)
		l = append(l, f)
	}
	for _, at := range []int{1, -1, 65536, math.MaxInt, math.MinInt} {
		put(func(e *api.Expr) { e.At = at })
	}
	put(func(e *api.Expr) { e.Text = "a" })
	put(func(e *api.Expr) { e.Text = "\x00" })
	if e.Op != api.OpSet {
		for i := range 4 {
			put(func(e *api.Expr) { e.Set[i] = 1 << 63 })
		}
	}
	if e.Op != api.OpRepeat {
		for _, n := range []int{1, -1, math.MaxInt} {
			put(func(e *api.Expr) { e.Min = n })
			put(func(e *api.Expr) { e.Max = n })
		}
	}
	if e.Op == api.OpEmpty || e.Op == api.OpSet {
		put(func(e *api.Expr) { e.Args = []api.Expr{set("a")} })
		put(func(e *api.Expr) { e.Args = []api.Expr{set("a"), set("a")} })
	}
	return l
}

func TestHowGreatACoreMayBe(t *testing.T) {
	a := set("a")
	wantCheck(t, "4096 deep", nested(a, 1<<12-1), true, 1)
	wantCheck(t, "4097 deep", nested(a, 1<<12), false, 0)
	wantCheck(t, "4097 deep, empty", nested(empty(), 1<<12), false, 0)
	wantCheck(t, "4096 deep, last", cat(a, alt(a, nested(a, 1<<12-3))), true, 3)
	wantCheck(t, "4097 deep, last", cat(a, alt(a, nested(a, 1<<12-2))), false, 0)
	wantCheck(t, "4097 deep, first", cat(nested(a, 1<<12-1), a), false, 0)
	row := func(e api.Expr, n int) []api.Expr { return slices.Repeat([]api.Expr{e}, n) }
	wantCheck(t, "2^16 in all", cat(row(empty(), 1<<16-1)...), true, 0)
	wantCheck(t, "2^16 and one", cat(row(empty(), 1<<16)...), false, 0)
	wantCheck(t, "2^16 in all, alt", alt(row(a, 1<<16-1)...), true, 1001)
	wantCheck(t, "2^16 and one, alt", alt(row(a, 1<<16)...), false, 0)
	wantCheck(t, "2^16 in all, in rows", cat(row(cat(row(a, 255)...), 255)...), true, 1001) // 1 + 255 * 256
	wantCheck(t, "2^16 in all, in rows, filled", cat(append(row(cat(row(a, 255)...), 255), row(a, 255)...)...), true, 1001)
	wantCheck(t, "2^16 and one, in rows", cat(append(row(cat(row(a, 255)...), 255), row(a, 256)...)...), false, 0)
	wantCheck(t, "a great many", cat(row(cat(row(a, 1000)...), 1000)...), false, 0)
	wantCheck(t, "2^16 deep", nested(a, 1<<16-2), false, 0)
}

// Of more positions than may be it is told that they are more.
func TestSizesAtTheCap(t *testing.T) {
	for n, want := range map[int]int{2: 2, 999: 999, 1000: 1000, 1001: 1001, 1002: 1001, 2000: 1001, 65535: 1001} {
		e := cat(slices.Repeat([]api.Expr{set("a")}, n)...)
		wantCheck(t, n, e, true, want)
		e.Op = api.OpAlt
		wantCheck(t, n, e, true, want)
	}
	e := cat(slices.Repeat([]api.Expr{alt(set("a"), empty())}, 1000)...)
	wantCheck(t, "1000", e, true, 1000)
	wantCheck(t, "1001", times(cat(e, set("")), 0, 1), true, 1001)
}
