package expand_test

import (
	"math/big"
	"runtime"
	"slices"
	"strings"
	"testing"

	"bolter/api"
	"bolter/expand"
)

// P7.1: how many positions there are; P7.3

func TestSizes(t *testing.T) {
	for text, want := range map[string]int{
		"()": 0, `""`: 0, "[]": 1, "[a-z]": 1, "[^]": 1, `"a"`: 1, `"abc"`: 3, `"a" () "bc"`: 3, `"a"|"bc"|()`: 3, "{e}": 0, "{xy}": 2, "{xy}{xy}|{xy}": 6, "{o}": 1,
		`"ab"{0}`: 0, `"ab"{0,0}`: 0, `"ab"{1}`: 2, `"ab"{3}`: 6, `"ab"*`: 2, `"ab"+`: 2, `"ab"?`: 2, `"ab"{0,}`: 2, `"ab"{1,}`: 2, `"ab"{2,}`: 4, `"ab"{3,}`: 6, `"ab"{0,3}`: 6, `"ab"{2,3}`: 6,
		`"ab"*{2}`: 4, `"ab"{2}*`: 4, `"ab"{2}{0}`: 0, `"ab"{0}{2}`: 0, `"ab"{2}{3,}{0,4}`: 48, `"a"?+*`: 1, `(){100}`: 0, `"a"{100}{100}{0}`: 0, `("a"{100}{100}{0}|"b")+`: 1,
		`"a"{100}`: 100, `"a"{100,}`: 100, `"a"{99,100}`: 100, `"a"{100}{10}`: 1000, `"a"{0,100}{10,}`: 1000, `"a"{91}{11}`: 1001, `"a"{100}{10} "a"`: 1001, `"a"|"a"{100}{10}`: 1001, `"a"{100}{11}`: 1001,
		`"a"{100}{100}{100}{100}{100}{100}{100}{100}{100}{100}{100}{100}`:      1001,
		`("a"{100}{100}{100}{100}{100}{100}{100}{100}{100}{100}{100}{100}){0}`: 0,
		`"a"` + strings.Repeat("{64}", 11):                                     1001, `"a"` + strings.Repeat("{2}", 40): 1001, `("a"` + strings.Repeat("{64}", 11) + "){0}": 0, // 2^66, 2^40
		`"` + strings.Repeat("a", 1000) + `"`: 1000, `"` + strings.Repeat("a", 1001) + `"`: 1001, `"` + strings.Repeat("a", 60000) + `"`: 1001,
	} {
		wantSizes(t, text, parsed(t, someDefs+"rule "+text+" => t"), want)
	}
}

func TestSizesOfRules(t *testing.T) {
	// the document's
	s := parsed(t, "let a = \"x\"{100}\nlet b = {a}{100}\nrule {b} => t")
	wantSizes(t, "the document's", s, 1001)
	wantFault(t, "the document's", s, api.Fault{Code: api.CodeTooManyPositions})
	wantSizes(t, "head and trail", parsed(t, someDefs+"rule {xy} / \"abc\" => t\nrule () => u\nrule () / () => u\nrule () / {x} => u\nrule {x} / () => u"), 5, 0, 0, 1, 1)
	wantSizes(t, "no rules", parsed(t, someDefs))
	wantSizes(t, "nothing", api.Spec{})
	wantSizes(t, "caps", parsed(t, "let k = \"x\"{100}{10}\nrule {k} => t\nrule {k} / () => t\nrule {k} / [] => t\nrule [] / {k} => t\nrule {k} / {k} => t\nrule {k}{0} / {k} => t\nrule [] => t"), 1000, 1000, 1001, 1001, 1001, 1000, 1)
	wantSizes(t, "200 rules", file(nil, slices.Repeat([]api.Expr{times(set("a"), 6, 6)}, 200)...), slices.Repeat([]int{6}, 200)...)
}

// Definitions of definitions grow as powers do.
func TestGreatDefinitions(t *testing.T) {
	defs := []api.Def{def("d0", set("a"))}
	for i := range api.MaxDefs - 1 {
		defs = append(defs, def(defName(i+1), cat(ref(defName(i)), ref(defName(i)))))
	}
	for i, want := range map[int]int{0: 1, 5: 32, 9: 512, 10: 1001, 63: 1001, 64: 1001, 199: 1001} {
		wantSizes(t, i, file(defs, ref(defName(i))), want)
		wantSizes(t, i, file(defs, times(ref(defName(i)), 0, 0)), 0)
		wantSizes(t, i, file(defs, times(ref(defName(i)), 100, 100)), min(100*want, 1001))
	}
	// What is too great and used 0 times, or not at all, does no harm.
	core := coreOf(t, file(defs, alt(set("b"), times(ref("d199"), 0, 0))))
	if shown(core) != "(b|())" {
		t.Errorf("%s", shown(core))
	}
	l, err := expand.Expand(file(append(defs[:198:198], def("z", cat(set("b"), times(ref("d197"), 0, 0)))), ref("z"), ref("d9"), ref("d8")))
	if err != nil || len(l) != 3 || shown(l[0].Head) != "b" || expand.Size(l[1].Head) != 512 || expand.Size(l[2].Head) != 256 {
		t.Errorf("%d, %v", len(l), err)
	}
}

// R1: reckoned by numbers without bounds.
func (m meanings) positions(e api.Expr) *big.Int {
	n := new(big.Int)
	switch e.Op {
	case api.OpSet:
		return n.SetInt64(1)
	case api.OpWord:
		return n.SetInt64(int64(len(e.Text)))
	case api.OpRef:
		return m.positions(m[e.Text])
	}
	for _, a := range e.Args {
		n.Add(n, m.positions(a))
	}
	if e.Op == api.OpRepeat {
		by := e.Max
		if by == -1 {
			by = max(e.Min, 1)
		}
		n.Mul(n, big.NewInt(int64(by)))
	}
	return n
}

func TestSizesByChance(t *testing.T) {
	c := chance(9)
	for _, most := range []int{1, 2, 5, 20, 100} {
		for range 1500 {
			s := c.file(5, most)
			m := meaningsOf(s.Defs)
			var want []int
			for _, u := range s.Rules {
				n := m.positions(u.Head)
				n.Add(n, m.positions(u.Trail))
				size := 1001
				if n.Cmp(big.NewInt(1001)) < 0 {
					size = int(n.Int64())
				}
				want = append(want, size)
			}
			wantSizes(t, s, s, want...)
		}
	}
}

// P7.4: all rules together have at most MaxPositions positions.
func TestTooManyPositions(t *testing.T) {
	for text, over := range map[string]bool{
		`rule "a"{100}{10} => t`: false, `rule "a"{91}{11} => t`: true, `rule "a"{100}{10} / "b" => t`: true, `rule "a"{100}{10} / () => t`: false, `rule "a"{0,100}{9} / "b"{100} => t`: false,
		"rule \"a\"{100}{5} => t\nrule \"a\"{100}{5} => t":                                    false,
		"rule \"a\"{100}{5} => t\nrule \"a\"{100}{5} => t\nrule [] => t":                      true,
		"rule \"a\"{100}{5} => t\nrule \"a\"{100}{5} => t\nrule () => t":                      false,
		"rule [] => t\nrule \"a\"{100}{5} => t\nrule () / \"a\"{100}{5} => t":                 true,
		"let d = \"a\"{100}{100}\nrule [] => t\nrule {d}{0} => t":                             false,
		"let d = \"a\"{100}{100}\nrule [] => t":                                               false,
		"let d = \"a\"{100}{100}\nrule [] => t\nrule {d} => t":                                true,
		"own m\nrule \"a\"{100}{10} => t\nrule <m> [] => t":                                   true,
		"let d = \"a\"{100}{10}\nrule {d} => t":                                               false,
		"let d = \"a\"{91}{11}\nrule {d} => t":                                                true,
		"let d = \"a\"{100}{5}\nrule {d} {d} => t":                                            false,
		"let d = \"a\"{100}{5}\nrule {d} {d} / {d} => t":                                      true,
		"let d = \"a\"{100}{100}{100}{100}{100}\nrule {d} => t\nrule {d} => t\nrule {d} => t": true,
	} {
		s := parsed(t, text)
		if over {
			wantFault(t, text, s, api.Fault{Code: api.CodeTooManyPositions})
			continue
		}
		l, err := expand.Expand(s)
		if err != nil || len(l) != len(s.Rules) {
			t.Errorf("%s: %d cores, %v", text, len(l), err)
		}
		sizes, _ := expand.Sizes(s)
		for i, c := range l {
			if n := positionsOf(c); n != sizes[i] {
				t.Errorf("%s: %d positions, want %d", text, n, sizes[i])
			}
		}
	}
	row := slices.Repeat([]api.Expr{times(set("a"), 5, 5)}, 200)
	if l, err := expand.Expand(file(nil, row...)); err != nil || len(l) != 200 {
		t.Errorf("200 rules: %d cores, %v", len(l), err)
	}
	row[199] = times(set("a"), 6, 6)
	wantFault(t, "200 rules", file(nil, row...), api.Fault{Code: api.CodeTooManyPositions})
}

// Caps are asked while a thing grows: what is too great is not made first.
func TestNothingGreatIsMade(t *testing.T) {
	long := word(strings.Repeat("a", 1<<24))
	defs := []api.Def{def("l", long), def("z", times(ref("l"), 0, 0)), def("zz", cat(times(ref("z"), 7, 7), set("b"), times(long, 0, 0)))}
	empties := cat(slices.Repeat([]api.Expr{empty()}, 1<<17)...)
	choice := alt(slices.Repeat([]api.Expr{empty()}, 1<<17)...)
	var before, behind runtime.MemStats
	runtime.ReadMemStats(&before)
	if got := shown(coreOf(t, file(defs, cat(ref("z"), ref("zz"), times(long, 0, 0), empties, times(choice, 100, 100))))); got != "b" {
		t.Errorf("%.300s", got)
	}
	wantFault(t, "long", file(defs, cat(ref("l"), ref("l"))), api.Fault{Code: api.CodeTooManyPositions})
	wantFault(t, "long", file(defs, times(long, 100, 100), long), api.Fault{Code: api.CodeTooManyPositions})
	runtime.ReadMemStats(&behind)
	if n := behind.TotalAlloc - before.TotalAlloc; n > 1<<23 {
		t.Errorf("%d bytes", n)
	}
}
