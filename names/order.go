package names

import "slices"

// What definitions use is told by the numbers of those that each one uses, rising.

// wayBack tells the shortest way back to the least definition that reaches itself, that one first; none, if none does.
//
// Definitions are reached in the order of the ways to them, the shortest first, of ways that are as short the one by
// lesser numbers; so what reaches one first stands ahead of it on its first way.
func wayBack(uses [][]int) []int {
	var ahead map[int]int
	var reached, way []int
	reach := func(from int) {
		for _, d := range uses[from] {
			if _, again := ahead[d]; !again {
				ahead[d] = from
				reached = append(reached, d)
			}
		}
	}
starts:
	for start := range uses {
		ahead, reached = map[int]int{}, nil
		reach(start)
		for i := 0; i < len(reached); i++ {
			if reached[i] == start {
				way = wayTo(start, ahead)
				break starts
			}
			reach(reached[i])
		}
	}
	return way
}

// wayTo goes back from start to start by those that stand ahead of each one, and tells the way as it is gone.
func wayTo(start int, ahead map[int]int) []int {
	way := []int{start}
	for d := ahead[start]; d != start; d = ahead[d] {
		way = append(way, d)
	}
	slices.Reverse(way[1:])
	return way
}

// order tells the definitions, each behind those that it uses; none of them may reach itself.
func order(uses [][]int) []int {
	var out []int
	told := make([]bool, len(uses))
	untold := func(d int) bool { return !told[d] }
	for range uses {
		for d, used := range uses {
			if untold(d) && !slices.ContainsFunc(used, untold) {
				told[d] = true
				out = append(out, d)
				break
			}
		}
	}
	return out
}
