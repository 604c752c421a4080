package places_test

import (
	"slices"
	"testing"

	"bolter/api"
	"bolter/places"
)

const last = api.MaxPositions + api.MaxRules - 1

func lists() [][]int {
	all := make([]int, last+1)
	for p := range all {
		all[p] = p
	}
	return [][]int{nil, {0}, {1}, {63}, {64}, {65}, {last}, {0, last}, {0, 1, 63, 64, 127, 128, 999, 1000, 1001}, {62, 65}, {7, 8, 15, 16}, all[:600], all[600:], all}
}

func TestWhatIsInASet(t *testing.T) {
	for _, l := range lists() {
		s := places.Of(l...)
		if got := slices.Collect(s.All); !slices.Equal(got, l) {
			t.Errorf("%v: %v", l, got)
		}
		for p := range last + 1 {
			if s.Has(p) != slices.Contains(l, p) {
				t.Errorf("%v: %d is in it: %v", l, p, s.Has(p))
			}
		}
	}
	if places.Of(5, 3, 5, 3) != places.Of(3, 5) {
		t.Error("a place that stands twice counts once")
	}
}

func TestTwoSets(t *testing.T) {
	for _, l := range lists() {
		for _, m := range lists() {
			s, other := places.Of(l...), places.Of(m...)
			both := slices.DeleteFunc(slices.Clone(l), func(p int) bool { return !slices.Contains(m, p) })
			if got := slices.Collect(s.Both(other).All); !slices.Equal(got, both) {
				t.Errorf("%v and %v have %v", l, m, got)
			}
			if (s.Text() == other.Text()) != slices.Equal(l, m) {
				t.Errorf("%v and %v: texts are alike: %v", l, m, s.Text() == other.Text())
			}
			if with := s.With(other); with != places.Of(slices.Concat(l, m)...) {
				t.Errorf("%v with %v: %v", l, m, slices.Collect(with.All))
			}
		}
	}
}

func TestLeftEarly(t *testing.T) {
	var seen []int
	for p := range places.Of(3, 64, 70, 999).All {
		seen = append(seen, p)
		if p == 70 {
			break
		}
	}
	if !slices.Equal(seen, []int{3, 64, 70}) {
		t.Errorf("%v", seen)
	}
}
