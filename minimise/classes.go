package minimise

import "bolter/api"

// refiner parts an automaton's states until no text tells those of one class apart.
type refiner struct {
	parting
	later worklist
	from  [bytes][][]int // by each byte, of each state those that lead to it
}

func classesOf(d api.Dense) []int {
	r := refiner{parting: whole(len(d.Next)), later: worklist{waits: map[splitter]struct{}{}}, from: sources(d.Next)}
	for _, states := range labelled(d.Label) {
		r.part(states)
	}
	for s, ok := r.later.take(); ok; s, ok = r.later.take() {
		r.part(r.leading(s))
	}
	return renumbered(r.class)
}

func sources(next [][]int) [bytes][][]int {
	var from [bytes][][]int
	for b := range from {
		from[b] = make([][]int, len(next))
		for s, row := range next {
			from[b][row[b]] = append(from[b][row[b]], s)
		}
	}
	return from
}

// labelled tells the states of each label.
func labelled(labels []int) [][]int {
	var l [][]int
	numbers := numbering{}
	for s, label := range labels {
		n := numbers.of(label)
		if n == len(l) {
			l = append(l, nil)
		}
		l[n] = append(l[n], s)
	}
	return l
}

// renumbered numbers classes in the order of their least states.
func renumbered(class []int) []int {
	var l []int
	numbers := numbering{}
	for _, c := range class {
		l = append(l, numbers.of(c))
	}
	return l
}

// leading tells the states that lead into a splitter's class by its byte: each once, since by one byte it leads to one state alone.
func (r *refiner) leading(s splitter) []int {
	var l []int
	for _, to := range r.members(s.class) {
		l = append(l, r.from[s.by][to]...)
	}
	return l
}

// part parts these states from the others of their classes.
func (r *refiner) part(states []int) {
	for _, class := range r.mark(states) {
		if made, ok := r.cut(class); ok {
			r.later.parted(class, made, r.smaller(class, made))
		}
	}
}
