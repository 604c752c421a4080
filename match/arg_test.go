package match_test

import (
	"math"
	"slices"
	"strings"
	"testing"

	"bolter/api"
	"bolter/samples"
)

// P9.1

func TestNoCores(t *testing.T) {
	good := rule(set("a"))
	for what, e := range samples.NotCores() {
		for _, text := range []string{"", "a", "b", strings.Repeat("a", api.MaxFile+1)} {
			wantNone(t, what, e, []byte(text))
			for _, active := range [][]int{nil, {0}, {1}, {2}, {0, 1}} {
				for _, c := range []api.Core{rule(e), trailed(e, set("b")), trailed(set("a"), e)} {
					wantNoRule(t, what, []api.Core{c}, active, []byte(text))
					// Active or not, whatever the rules ahead of it take.
					wantNoRule(t, what+", last", []api.Core{good, c}, active, []byte(text))
				}
			}
		}
	}
}

// A Trail of a rule that has none is the zero Expr.
func TestTrailsThatAreNone(t *testing.T) {
	for _, trail := range samples.NotNone() {
		c := api.Core{Head: set("a"), Trail: trail}
		wantNoRule(t, c, []api.Core{c}, []int{0}, []byte("a"))
		wantNoRule(t, c, []api.Core{rule(set("a")), c}, nil, nil)
	}
	l := []api.Core{{Head: set("a"), Trail: api.Expr{Args: []api.Expr{}}}}
	wantLabel(t, "an empty list", l, []int{0}, "a", 0)
	wantLongest(t, "an empty list", l, []int{0}, "a", 1, 0)
}

func TestTooManyRules(t *testing.T) {
	many := slices.Repeat([]api.Core{rule(set("a"))}, api.MaxRules+1)
	wantNoRule(t, "too many", many, []int{0}, []byte("a"))
	wantNoRule(t, "too many", many, nil, nil)
	wantLabel(t, "one less", many[1:], []int{api.MaxRules - 1}, "a", api.MaxRules-1)
	wantLongest(t, "one less", many[1:], []int{api.MaxRules - 1}, "a", 1, api.MaxRules-1)
}

func TestNumbersThatAreNoRules(t *testing.T) {
	l := []api.Core{rule(set("a")), rule(set("b"))}
	for _, number := range []int{2, -1, 3, 199, 200, math.MaxInt, math.MinInt, 1 << 32, -1 << 32} {
		for _, active := range [][]int{{number}, {0, number}, {number, 0}, {0, 1, 1, 0, number}} {
			wantNoRule(t, active, l, active, []byte("a"))
			wantNoRule(t, active, l, active, nil)
		}
	}
	wantNoRule(t, "no rules", nil, []int{0}, nil)
}

func TestLongTexts(t *testing.T) {
	e := star(set("a"))
	l := []api.Core{rule(e)}
	for _, long := range []int{1, 2, 100, api.MaxFile} {
		text := []byte(strings.Repeat("a", api.MaxFile+long))
		wantNone(t, long, e, text)
		wantNone(t, long, set("b"), text)
		wantNoRule(t, long, l, []int{0}, text)
		wantNoRule(t, long, l, nil, text)
		wantNoRule(t, long, nil, nil, text)
	}
	wantLabel(t, "as long as may be", l, nil, strings.Repeat("b", api.MaxFile), -1)
	wantLongest(t, "as long as may be", nil, nil, strings.Repeat("b", api.MaxFile), 0, -1)
}
