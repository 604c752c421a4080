package rows_test

import (
	"math"
	"slices"
	"testing"

	"bolter/api"
	"bolter/rows"
	"bolter/samples"
)

// P15.2

// least is the table of one state, and of one class.
func least() api.Rows {
	return api.Rows{Classes: make([]int, 256), Count: 1, Starts: []int{0}, Next: [][]int{{-1}}, Label: []int{-1}}
}

// great is a table of as many states and classes as may be.
func great() api.Rows {
	r := api.Rows{Classes: upTo(0, 255), Count: 256, Starts: upTo(584, 599)}
	for s := range 600 {
		r.Next, r.Label = append(r.Next, upTo(s%345-1, s%345+254)), append(r.Label, s%201-1)
	}
	return r
}

func TestTablesThatMayBe(t *testing.T) {
	for what, change := range map[string]func(r *api.Rows){
		"as it is":                         func(r *api.Rows) {},
		"one state":                        func(r *api.Rows) { *r = least() },
		"one state that leads to itself":   func(r *api.Rows) { *r = least(); r.Next[0][0] = 0 },
		"600 states, 256 classes":          func(r *api.Rows) { *r = great() },
		"one start":                        func(r *api.Rows) { r.Starts = r.Starts[:1] },
		"one that isn't state 0":           func(r *api.Rows) { r.Starts = []int{2} },
		"16 starts":                        func(r *api.Rows) { r.Starts = slices.Repeat([]int{0, 1, 2, 2}, 4) },
		"starts that fall":                 func(r *api.Rows) { r.Starts = []int{2, 1, 0} },
		"one start twice":                  func(r *api.Rows) { r.Starts = []int{1, 1} },
		"the greatest label":               func(r *api.Rows) { r.Label = []int{199, 199, 199} },
		"no labels but none":               func(r *api.Rows) { r.Label = []int{-1, -1, -1} },
		"nothing but -1":                   func(r *api.Rows) { r.Next = slices.Repeat([][]int{{-1, -1, -1}}, 3) },
		"columns that are alike":           func(r *api.Rows) { r.Next = slices.Repeat([][]int{{2, 2, 2}}, 3) },
		"a state that nothing leads to":    func(r *api.Rows) { r.Next = slices.Repeat([][]int{{0, 0, 0}}, 3) },
		"states that are dead, and led to": func(r *api.Rows) { r.Label = []int{-1, -1, -1} },
		"a class of the last byte alone":   func(r *api.Rows) { r.Classes['c'], r.Classes[255] = 0, 2 },
		"all bytes of the first bytes'":    func(r *api.Rows) { r.Classes = append([]int{0, 1}, slices.Repeat([]int{2}, 254)...) },
		"classes by turns":                 func(r *api.Rows) { r.Classes = append(slices.Repeat([]int{0, 1, 2}, 85), 0) },
		"a class less":                     func(r *api.Rows) { r.Classes['c'], r.Count, r.Next = 0, 2, [][]int{{-1, 1}, {2, 0}, {1, -1}} },
	} {
		r := samples.Table()
		change(&r)
		if !rows.Check(r) || !mayBe(r) {
			t.Errorf("%s may not be", what)
		}
	}
}

func TestTablesThatMayNotBe(t *testing.T) {
	for what, r := range samples.NotRows() {
		if rows.Check(r) || mayBe(r) {
			t.Errorf("%s may be", what)
		}
	}
}

// mayBe reads P15.2 once more.
func mayBe(r api.Rows) bool {
	in := func(l []int, least, most int) bool {
		return !slices.ContainsFunc(l, func(n int) bool { return n < least || n > most })
	}
	states := len(r.Next)
	if r.Count < 1 || r.Count > 256 || len(r.Classes) != 256 || !in(r.Classes, 0, r.Count-1) || states < 1 || states > 600 || len(r.Starts) < 1 || len(r.Starts) > 16 || len(r.Label) != states {
		return false
	}
	last := -1
	for class := range r.Count {
		first := slices.Index(r.Classes, class)
		if first <= last {
			return false
		}
		last = first
	}
	return in(r.Starts, 0, states-1) && in(r.Label, -1, 199) && !slices.ContainsFunc(r.Next, func(row []int) bool { return len(row) != r.Count || !in(row, -1, states-1) })
}

// Each place of a table is looked at.
func TestEachPlaceIsChecked(t *testing.T) {
	for i, list := range samples.RowsLists(samples.Table()) {
		for j, was := range list {
			for _, n := range []int{-3, -2, -1, 0, 1, 2, 3, 4, 199, 200, 256, math.MaxInt, math.MinInt} {
				r := samples.Table()
				samples.RowsLists(r)[i][j] = n
				if got, want := rows.Check(r), mayBe(r); got != want {
					t.Errorf("list %d, %d: %d, not %d: may be: %v", i, j, n, was, got)
				}
			}
		}
	}
	for what, change := range map[string]func(r *api.Rows){
		"the last entry": func(r *api.Rows) { r.Next[599][255] = 600 }, "the first entry": func(r *api.Rows) { r.Next[0][0] = -2 }, "the last label": func(r *api.Rows) { r.Label[599] = 200 }, "the last start": func(r *api.Rows) { r.Starts[15] = 600 },
		"the last class": func(r *api.Rows) { r.Classes[255] = 254 }, "two classes change": func(r *api.Rows) { r.Classes[254], r.Classes[255] = 255, 254 }, "256": func(r *api.Rows) { r.Classes[255] = 256 }, "a longer row": func(r *api.Rows) { r.Next[599] = append(r.Next[599], 0) },
		"a start more": func(r *api.Rows) { r.Starts = append(r.Starts, 0) }, "a state more": func(r *api.Rows) { r.Next, r.Label = append(r.Next, upTo(0, 255)), append(r.Label, 0) },
	} {
		r := great()
		change(&r)
		if rows.Check(r) {
			t.Errorf("600 states, %s may be", what)
		}
	}
}

// Each class is told by the byte that it is first of.
func TestFirstBytesOfClasses(t *testing.T) {
	for b := range 256 {
		r := samples.Table()
		r.Classes = make([]int, 256)
		r.Classes[b], r.Classes[255-b] = 1, 2
		want := 0 < b && b < 255-b
		if got := rows.Check(r); got != want {
			t.Errorf("classes 1 at %d, 2 at %d may be: %v", b, 255-b, got)
		}
	}
	for count := 1; count <= 256; count++ {
		r := least()
		r.Count, r.Next[0] = count, make([]int, count)
		for b := range 256 {
			r.Classes[b] = min(b, count-1)
		}
		if !rows.Check(r) {
			t.Errorf("%d classes may not be", count)
		}
		for _, other := range []int{count - 1, count + 1} {
			r.Count, r.Next[0] = other, make([]int, other)
			if rows.Check(r) {
				t.Errorf("%d classes, told as %d, may be", count, other)
			}
		}
	}
}

// wild makes a table of a few states, which now and then may not be.
func (c *chance) wild() api.Rows {
	states, count := 1+c.Of(3), 1+c.Of(3)
	r := api.Rows{Classes: make([]int, 256), Count: count}
	for b := range r.Classes {
		r.Classes[b] = min(b, c.Of(count))
	}
	for range 1 + c.Of(2) {
		r.Starts = append(r.Starts, c.Of(states))
	}
	for range states {
		var row []int
		for range count {
			row = append(row, c.Of(states+1)-1)
		}
		r.Next, r.Label = append(r.Next, row), append(r.Label, c.Of(201)-1)
	}
	if c.Of(2) == 0 {
		c.spoil(&r)
	}
	return r
}

// spoil writes any number at all somewhere, or cuts, or lengthens, a list.
func (c *chance) spoil(r *api.Rows) {
	n := []int{-2, -1, 0, 1, 2, 3, 200, math.MaxInt, math.MinInt}[c.Of(9)]
	lists := samples.RowsLists(*r)
	switch c.Of(8) {
	case 0:
		r.Count = n
	case 1:
		r.Starts = append(r.Starts, n)
	case 2:
		r.Label = append(r.Label, n)
	case 3:
		r.Next = append(r.Next, r.Next[0])
	case 4:
		r.Classes = r.Classes[c.Of(2):]
	case 5:
		r.Next[0] = append(r.Next[0], n)
	default:
		list := lists[c.Of(len(lists))]
		if len(list) > 0 {
			list[c.Of(len(list))] = n
		}
	}
}

func TestChecksByChance(t *testing.T) {
	c := chance{4}
	may := 0
	for range 20000 {
		r := c.wild()
		want := mayBe(r)
		if got := rows.Check(r); got != want {
			t.Errorf("%+v may be: %v", r, got)
		}
		if want {
			may++
		}
	}
	if min(may, 20000-may) < 3000 {
		t.Errorf("%d may be", may)
	}
}
