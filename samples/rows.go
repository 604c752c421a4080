package samples

import (
	"math"
	"slices"
	"strconv"
	"strings"

	"bolter/api"
)

// Table is one of two modes, three states and three classes.
func Table() api.Rows {
	r := api.Rows{Classes: make([]int, 256), Count: 3, Starts: []int{0, 2}, Next: [][]int{{-1, 1, 2}, {2, 0, -1}, {1, -1, 0}}, Label: []int{-1, 0, 7}}
	r.Classes['a'], r.Classes['c'], r.Classes[255] = 1, 2, 1
	return r
}

// TableOf is one of these rows: its start is state 0, each byte has a class of its own, the bytes behind them all the last one.
func TableOf(next ...[]int) api.Rows {
	r := api.Rows{Count: len(next[0]), Starts: []int{0}, Next: next, Label: make([]int, len(next))}
	for b := range 256 {
		r.Classes = append(r.Classes, min(b, r.Count-1))
	}
	return r
}

// AllRows goes through all tables of so many states and classes.
func AllRows(states, classes int, visit func(r api.Rows)) {
	var entries []int
	var fill func()
	fill = func() {
		if len(entries) == states*classes {
			visit(TableOf(slices.Collect(slices.Chunk(slices.Clone(entries), classes))...))
			return
		}
		for to := range states + 1 {
			entries = append(entries, to-1)
			fill()
			entries = entries[:len(entries)-1]
		}
	}
	fill()
}

// RowsText is a table as a text: of each mode its start; of each row of bytes that have one class the first byte and that class; of each state its label and its row.
func RowsText(r api.Rows) string {
	l := []string{"starts" + numbersText(r.Starts), "classes"}
	for b, class := range r.Classes {
		if b == 0 || class != r.Classes[b-1] {
			l[1] += " " + byteText(byte(b)) + ">" + strconv.Itoa(class)
		}
	}
	for s, row := range r.Next {
		l = append(l, strconv.Itoa(r.Label[s])+":"+numbersText(row))
	}
	return strings.Join(l, "; ")
}

func numbersText(l []int) string {
	var text string
	for _, n := range l {
		text += " " + strconv.Itoa(n)
	}
	return text
}

// RowsPieces makes each list of a table a piece of a longer one.
func RowsPieces(r api.Rows) api.Rows {
	return api.Rows{Classes: PieceOf(r.Classes, -9), Count: r.Count, Starts: PieceOf(r.Starts, -9), Next: RowPieces(r.Next), Label: PieceOf(r.Label, -9)}
}

// RowsLongs tells a table with what lies behind its lists.
func RowsLongs(r api.Rows) api.Rows {
	return api.Rows{Classes: slices.Clone(r.Classes[:cap(r.Classes)]), Count: r.Count, Starts: slices.Clone(r.Starts[:cap(r.Starts)]), Next: RowLongs(r.Next), Label: slices.Clone(r.Label[:cap(r.Label)])}
}

// RowsLists is all lists of numbers of a table, each up to its capacity.
func RowsLists(r api.Rows) [][]int {
	lists := [][]int{r.Classes[:cap(r.Classes)], r.Starts[:cap(r.Starts)], r.Label[:cap(r.Label)]}
	for _, row := range r.Next[:cap(r.Next)] {
		lists = append(lists, row[:cap(row)])
	}
	return lists
}

// NotRows tells tables that may not be, from unlike causes.
func NotRows() map[string]api.Rows {
	l := map[string]api.Rows{"nothing": {}}
	for what, change := range badRows() {
		r := Table()
		change(&r)
		l[what] = r
	}
	return l
}

func badRows() map[string]func(r *api.Rows) {
	return map[string]func(r *api.Rows){
		// classes
		"no classes": func(r *api.Rows) { r.Classes = nil }, "255 bytes": func(r *api.Rows) { r.Classes = r.Classes[:255] }, "257 bytes": func(r *api.Rows) { r.Classes = append(r.Classes, 0) }, "very many bytes": func(r *api.Rows) { r.Classes = append(r.Classes, make([]int, 1<<20)...) },
		"class -1": func(r *api.Rows) { r.Classes[128] = -1 }, "class 3": func(r *api.Rows) { r.Classes[128] = 3 }, "the greatest class": func(r *api.Rows) { r.Classes[255] = math.MaxInt }, "the least class": func(r *api.Rows) { r.Classes[0] = math.MinInt },
		"no class 0": func(r *api.Rows) { r.Classes = slices.Repeat([]int{1, 2}, 128) }, "no class 1": func(r *api.Rows) { r.Classes['a'], r.Classes[255] = 0, 0 }, "no class 2": func(r *api.Rows) { r.Classes['c'] = 0 },
		"class 2 ahead of 1": func(r *api.Rows) { r.Classes['b'], r.Classes['a'] = 1, 2 }, "class 1 ahead of 0": func(r *api.Rows) { r.Classes[0] = 1 }, "class 2 ahead of 0": func(r *api.Rows) { r.Classes[0] = 2 },
		"fewer than there are": func(r *api.Rows) { r.Count = 2 }, "more than there are": func(r *api.Rows) { r.Count = 4 }, "none": func(r *api.Rows) { r.Count = 0 }, "-1 classes": func(r *api.Rows) { r.Count = -1 }, "257 classes": func(r *api.Rows) { r.Count = 257 },
		"very many classes": func(r *api.Rows) { r.Count = math.MaxInt }, "very few classes": func(r *api.Rows) { r.Count = math.MinInt },
		"a column more": func(r *api.Rows) { *r = addColumn(*r) }, "a column less": func(r *api.Rows) { r.Count, r.Next = 2, [][]int{{-1, 1}, {2, 0}, {1, -1}} },
		// starts
		"no starts": func(r *api.Rows) { r.Starts = nil }, "17 starts": func(r *api.Rows) { r.Starts = make([]int, 17) }, "very many starts": func(r *api.Rows) { r.Starts = make([]int, 1<<20) },
		"start 3": func(r *api.Rows) { r.Starts[0] = 3 }, "start 3, last": func(r *api.Rows) { r.Starts[1] = 3 }, "start -1": func(r *api.Rows) { r.Starts[0] = -1 }, "the greatest start": func(r *api.Rows) { r.Starts[1] = math.MaxInt }, "the least start": func(r *api.Rows) { r.Starts[1] = math.MinInt },
		// states
		"no states": func(r *api.Rows) { r.Next, r.Label = nil, nil }, "601 states": func(r *api.Rows) { r.Next, r.Label = slices.Repeat(r.Next[:1], 601), make([]int, 601) },
		"a row less": func(r *api.Rows) { r.Next, r.Starts[1] = [][]int{{-1, 1, 0}, {0, 0, -1}}, 0 }, "a row more": func(r *api.Rows) { r.Next = append(r.Next, r.Next[0]) }, "no rows": func(r *api.Rows) { r.Next = nil },
		"a label less": func(r *api.Rows) { r.Label = r.Label[:2] }, "a label more": func(r *api.Rows) { r.Label = append(r.Label, 0) }, "no labels": func(r *api.Rows) { r.Label = nil },
		// rows
		"an entry less": func(r *api.Rows) { r.Next[0] = r.Next[0][:2] }, "an entry more": func(r *api.Rows) { r.Next[2] = append(r.Next[2], 0) }, "no entries": func(r *api.Rows) { r.Next[1] = nil }, "an entry a byte": func(r *api.Rows) { r.Next[1] = make([]int, 256) },
		"entry 3": func(r *api.Rows) { r.Next[0][0] = 3 }, "entry 3, last": func(r *api.Rows) { r.Next[2][2] = 3 }, "entry -2": func(r *api.Rows) { r.Next[1][1] = -2 }, "the greatest entry": func(r *api.Rows) { r.Next[2][0] = math.MaxInt }, "the least entry": func(r *api.Rows) { r.Next[2][0] = math.MinInt },
		// labels of no rules
		"label -2": func(r *api.Rows) { r.Label[0] = -2 }, "label -2, last": func(r *api.Rows) { r.Label[2] = -2 }, "label 200": func(r *api.Rows) { r.Label[0] = 200 }, "label 200, last": func(r *api.Rows) { r.Label[2] = 200 },
		"the greatest label": func(r *api.Rows) { r.Label[1] = math.MaxInt }, "the least label": func(r *api.Rows) { r.Label[1] = math.MinInt },
	}
}

// addColumn gives a table a class that no byte has.
func addColumn(r api.Rows) api.Rows {
	r.Count++
	for i, row := range r.Next {
		r.Next[i] = append(row, -1)
	}
	return r
}
