package minimise

import "bolter/api"

// least tells one state for each class that is reached: the first state of it that is found stands for all.
func least(d api.Dense, classes []int) api.Dense {
	var l api.Dense
	numbers := numbering{classes[0]: 0}
	found := []int{0}
	for i := 0; i < len(found); i++ {
		row := make([]int, bytes)
		for b, to := range d.Next[found[i]] {
			row[b] = numbers.of(classes[to])
			if row[b] == len(found) {
				found = append(found, to)
			}
		}
		l.Next, l.Label = append(l.Next, row), append(l.Label, d.Label[found[i]])
	}
	return l
}
