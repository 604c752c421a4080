package rows

import (
	"slices"

	"bolter/api"
)

// pieceStates is how many states a piece of a column has.
const pieceStates = 8

// piece is what some states, one behind the other, lead to by a byte. Behind the last state all pieces are alike.
type piece [pieceStates]int

// column is what all states lead to by a byte, in pieces.
type column []piece

func columnOf(next [][]int, b int) column {
	c := make(column, (len(next)+pieceStates-1)/pieceStates)
	for state, row := range next {
		c[state/pieceStates][state%pieceStates] = row[b]
	}
	return c
}

func columnsOf(next [][]int) []column {
	var l []column
	for b := range bytes {
		l = append(l, columnOf(next, b))
	}
	return l
}

// classesOf tells of each thing the number of its class: those that are alike have one. Classes are numbered by where their first things stand, which is told too.
func classesOf[T any](l []T, alike func(a, b T) bool) (classes, firsts []int) {
	for at, x := range l {
		class := slices.IndexFunc(firsts, func(first int) bool { return alike(l[first], x) })
		if class < 0 {
			class = len(firsts)
			firsts = append(firsts, at)
		}
		classes = append(classes, class)
	}
	return classes, firsts
}

func tableOf(l []api.Dense) api.Rows {
	var w wide
	for _, d := range l {
		w.put(d)
	}
	classes, firsts := classesOf(columnsOf(w.next), slices.Equal[column])
	r := api.Rows{Classes: classes, Count: len(firsts), Starts: w.starts, Label: w.label}
	for _, row := range w.next {
		r.Next = append(r.Next, narrow(row, firsts))
	}
	return r
}

// narrow tells the entry of each class by its first byte.
func narrow(row, firsts []int) []int {
	l := make([]int, len(firsts))
	for class, b := range firsts {
		l[class] = row[b]
	}
	return l
}
