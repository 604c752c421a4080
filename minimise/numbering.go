package minimise

// numbering is the numbers, from 0 on, of what is found, in the order in which it is.
type numbering map[int]int

// of numbers what was not found yet.
func (n numbering) of(x int) int {
	k, ok := n[x]
	if !ok {
		k = len(n)
		n[x] = k
	}
	return k
}
