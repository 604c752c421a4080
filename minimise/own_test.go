package minimise_test

import (
	"reflect"
	"slices"
	"testing"

	"bolter/api"
	"bolter/minimise"
	"bolter/samples"
	"bolter/subset"
)

// P12.4

// some is an automaton of which two states are alike, and one is not reached.
func some() api.Dense {
	return byTwo([]int{-1, 0, 0, 2, -1}, [2]int{1, 2}, [2]int{4, 2}, [2]int{4, 1}, [2]int{0, 3}, [2]int{4, 4})
}

const someShown = "-1: 00>1; 0: 00>2 a>1 b>2; -1: 00>2"

// What lies behind a list's length is neither read nor written; what is handed in stays.
func TestWhatIsHandedInStays(t *testing.T) {
	bad := some()
	bad.Next[4][255] = 5
	for _, d := range []api.Dense{some(), bad, samples.Two(), samples.States(600), {}} {
		classes, err := minimise.Classes(d)
		least, _ := minimise.Least(d)
		whole := samples.DensePieces(d)
		kept := samples.DenseLongs(whole)
		if again, fail := minimise.Classes(whole); !slices.Equal(again, classes) || (fail == nil) != (err == nil) {
			t.Errorf("%s: classes %s, %v", short(shown(d)), short(again), fail)
		}
		if again, fail := minimise.Least(whole); !reflect.DeepEqual(again, least) || (fail == nil) != (err == nil) {
			t.Errorf("%s: %s, %v", short(shown(d)), short(shown(again)), fail)
		}
		if !reflect.DeepEqual(samples.DenseLongs(whole), kept) {
			t.Errorf("%s: written over", short(shown(d)))
		}
	}
}

// No two lists of an answer share memory, be it behind their lengths; none is what was handed in.
func TestListsShareNothing(t *testing.T) {
	for _, d := range []api.Dense{some(), samples.Two(), samples.States(600), samples.States(1), denseOf(t, `rule [a-c]*"abc"|"x"{7} => t`, 0)} {
		classes := classesOf(t, shown(d), d)
		lists := append(samples.DenseLists([]api.Dense{leastOf(t, shown(d), d), d}), classes[:cap(classes)])
		for i, list := range lists {
			for j := range list {
				list[j] = i
			}
		}
		for i, list := range lists {
			if slices.ContainsFunc(list, func(n int) bool { return n != i }) {
				t.Fatalf("list %d is written over: %s", i, short(list))
			}
		}
	}
}

// Whoever writes into what is told, or was handed in, changes nothing else.
func TestAnswersAreOnesOwn(t *testing.T) {
	d := some()
	first, second := leastOf(t, "some", d), leastOf(t, "some", d)
	classes, again := classesOf(t, "some", d), classesOf(t, "some", d)
	for _, list := range append(samples.DenseLists([]api.Dense{first}), classes) {
		for i := range list {
			list[i] = -9
		}
	}
	clear(first.Next)
	if shown(second) != someShown || !slices.Equal(again, []int{0, 1, 1, 2, 3}) || !reflect.DeepEqual(d, some()) {
		t.Errorf("written over: %s, %v, %s", shown(second), again, shown(d))
	}
	for _, row := range append(d.Next, d.Label) {
		clear(row)
	}
	clear(d.Next)
	if shown(second) != someShown || !slices.Equal(again, []int{0, 1, 1, 2, 3}) {
		t.Errorf("what was handed in is kept: %s, %v", shown(second), again)
	}
	wantClasses(t, "some", some(), []int{0, 1, 1, 2, 3})
}

// Lists may stand in several places.
func TestSharedLists(t *testing.T) {
	row := slices.Repeat([]int{1, 0}, 128)
	for _, label := range [][]int{{0, 0, 0}, {-1, 0, 1}, {1, 0, 1}} {
		d := api.Dense{Next: [][]int{row, row, row}, Label: label}
		wantFormal(t, shown(d), d)
	}
	d := api.Dense{Next: [][]int{row, row}, Label: row[:2]}
	wantFormal(t, shown(d), d)
	if !slices.Equal(row, slices.Repeat([]int{1, 0}, 128)) {
		t.Errorf("%v", row)
	}
}

func TestEmptyListsAreNone(t *testing.T) {
	for _, d := range []api.Dense{{}, {Next: [][]int{}}, {Label: []int{}}, {Next: [][]int{}, Label: []int{}}, {Next: [][]int{{}}, Label: []int{0}}, {Next: [][]int{nil}, Label: []int{0}}} {
		wantArg(t, d, d)
	}
}

// Whatever is handed in, all ends, and the same is told each time.
func TestAllEnds(t *testing.T) {
	c := chance{11}
	may := 0
	for range 5000 {
		d := c.WildDense()
		if !subset.Check(d) {
			wantArg(t, d, d)
			continue
		}
		may++
		wantFormal(t, shown(d), d)
		wantLeast(t, shown(d), d, leastOf(t, shown(d), d))
		wantClasses(t, shown(d), d, classesOf(t, shown(d), d))
	}
	if min(may, 5000-may) < 400 {
		t.Errorf("%d may be", may)
	}
}
