package minimise

// bytes is how many there are: of each state, one leads to another one by each.
const bytes = 256

// splitter parts the states that lead into a class by a byte from those that don't.
type splitter struct {
	class int
	by    int
}

// worklist is the splitters that are still to be gone by.
type worklist struct {
	list  []splitter
	waits map[splitter]struct{} // what is in the list
}

func (w *worklist) put(s splitter) {
	w.waits[s] = struct{}{}
	w.list = append(w.list, s)
}

// take tells false, if none waits.
func (w *worklist) take() (splitter, bool) {
	if len(w.list) == 0 {
		return splitter{}, false
	}
	last := len(w.list) - 1
	s := w.list[last]
	w.list = w.list[:last]
	delete(w.waits, s)
	return s, true
}

// parted is told that a new class was made out of a class, and which of the two is the smaller one.
// Where the class has been gone by, one of the two is enough: what leads into the class and not into the one leads into the other.
func (w *worklist) parted(class, made, smaller int) {
	for b := range bytes {
		if _, ok := w.waits[splitter{class, b}]; ok {
			w.put(splitter{made, b})
		} else {
			w.put(splitter{smaller, b})
		}
	}
}
