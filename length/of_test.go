package length_test

import (
	"errors"
	"testing"

	"bolter/api"
	"bolter/byteset"
	"bolter/fault"
	"bolter/length"
	"bolter/samples"
)

// P8.1

func TestLengthsOfRules(t *testing.T) {
	for text, want := range map[string]api.Lengths{
		// the document's
		`"ab"|"c"`: from(1, 2), `"a"*`: from(0, -1), `[]`: noWords(), `[]*`: from(0, 0), `[] "a" | "bc"`: from(2, 2), `("a"|[])+`: from(1, -1), `[]+`: noWords(),
		// sets, texts
		`()`: from(0, 0), `"a"`: from(1, 1), `[^]`: from(1, 1), `[a-z]`: from(1, 1), `"\x00"`: from(1, 1), `"abcde"`: from(5, 5),
		// cats
		`"a" "bc"`: from(3, 3), `"a"? "bc"`: from(2, 3), `"a"? "b"?`: from(0, 2), `"a"* "bc"`: from(2, -1), `"ab" "c"*`: from(2, -1), `"a"+ "b"+`: from(2, -1), `"a" []`: noWords(), `"a"* []`: noWords(), `[] "a"+`: noWords(), `"a" []? "b"`: from(2, 2), `"a" []* "b"*`: from(1, -1),
		// alts
		`"abc"|"d"|"ef"`: from(1, 3), `"a"|()`: from(0, 1), `()|"abc"`: from(0, 3), `"abc"+|"d"`: from(1, -1), `"d"|"abc"+`: from(1, -1), `"abc"|"d"+`: from(1, -1), `"ab"+|"cde"+`: from(2, -1), `"cde"+|"ab"+`: from(2, -1), `[]|[]`: noWords(), `[]|"ab"`: from(2, 2), `"ab"|[]`: from(2, 2), `[]|"ab"+`: from(2, -1), `"ab"+|[]`: from(2, -1), `[]|()`: from(0, 0), `"ab"|"cd"`: from(2, 2),
		// counts
		`"ab"*`: from(0, -1), `"ab"+`: from(2, -1), `"ab"?`: from(0, 2), `("ab"|"c")+`: from(1, -1), `("a"|())+`: from(0, -1), `("a"|())?`: from(0, 1), `("ab"|"c"*)+`: from(0, -1), `("ab" "c"*)+`: from(2, -1), `("ab" "c"*)?`: from(0, -1), `[]?`: from(0, 0), `([]|())+`: from(0, 0), `([] "a")*`: from(0, 0), `([]?)+ "a"`: from(1, 1),
		`"a"{3}`: from(3, 3), `"ab"{2,}`: from(4, -1), `"ab"{2,5}`: from(4, 10), `"a"{0,7}`: from(0, 7), `"a"{100}`: from(100, 100), `("a"|"bc"){3}`: from(3, 6), `[]{2}`: noWords(), `[]{0,2}`: from(0, 0), `"a"{0}`: from(0, 0),
	} {
		wantOf(t, text, coresOf(t, "rule "+text+" => t")[0].Head, want)
	}
}

// Cores that expand makes none of.
func TestLengthsOfOtherCores(t *testing.T) {
	a := set("a")
	for _, c := range []struct {
		e    api.Expr
		want api.Lengths
	}{
		{star(empty()), from(0, 0)}, {plus(empty()), from(0, 0)}, {maybe(empty()), from(0, 0)}, {plus(star(set(""))), from(0, 0)}, {star(plus(maybe(set("")))), from(0, 0)},
		{cat(empty(), empty()), from(0, 0)}, {alt(empty(), empty()), from(0, 0)}, {plus(cat(empty(), maybe(empty()))), from(0, 0)},
		{cat(empty(), a), from(1, 1)}, {cat(a, empty()), from(1, 1)}, {plus(plus(a)), from(1, -1)}, {plus(star(a)), from(0, -1)}, {star(maybe(a)), from(0, -1)}, {maybe(plus(a)), from(0, -1)}, {maybe(maybe(a)), from(0, 1)},
		{cat(star(empty()), a, star(a)), from(1, -1)}, {alt(star(empty()), cat(a, a)), from(0, 2)}, {cat(star(a), set("")), noWords()}, {plus(cat(a, set(""))), noWords()},
		{api.Expr{Op: api.OpSet, Set: api.Set{0, 0, 0, 1 << 63}}, from(1, 1)}, {api.Expr{Op: api.OpSet, Set: byteset.All()}, from(1, 1)},
	} {
		wantOf(t, c.e, c.e, c.want)
	}
}

func TestLengthsOfNoCore(t *testing.T) {
	for what, e := range samples.NotCores() {
		got, err := length.Of(e)
		if got != (api.Lengths{}) || !isFault(err, argFault()) || !errors.Is(err, fault.ErrArg) {
			t.Errorf("%s: %+v, %+v", what, got, fault.Tell(err))
		}
	}
}

// The greatest cores that there are.
func TestLengthsOfGreatCores(t *testing.T) {
	a := set("a")
	wantOf(t, "deep stars", nested(a, 1<<12-1, 0, -1), from(0, -1))
	wantOf(t, "deep pluses", nested(a, 1<<12-1, 1, -1), from(1, -1))
	wantOf(t, "deep maybes", nested(a, 1<<12-1, 0, 1), from(0, 1))
	wantOf(t, "deep, empty", nested(empty(), 1<<12-1, 1, -1), from(0, 0))
	wantOf(t, "deep, none", nested(set(""), 1<<12-1, 1, -1), noWords())
	wantOf(t, "long", cat(row(a, 1<<16-1)...), from(1<<16-1, 1<<16-1))
	wantOf(t, "long, and none", cat(append(row(a, 1<<16-2), set(""))...), noWords())
	wantOf(t, "wide", alt(row(a, 1<<16-1)...), from(1, 1))
	wantOf(t, "long and wide", alt(cat(row(a, 1<<15)...), cat(row(a, 1<<15-3)...)), from(1<<15-3, 1<<15))
	wantOf(t, "long, again", plus(cat(row(a, 1<<16-2)...)), from(1<<16-2, -1))
}

// Against the lengths of the words by their definition: P8.3 of Of.
func TestLengthsOfSmallCores(t *testing.T) {
	for _, e := range small() {
		wantOf(t, e, e, lengthsBy(t, e))
	}
}

func TestLengthsOfCoresByChance(t *testing.T) {
	c := chance{3}
	for range 20000 {
		e := c.core(3)
		wantOf(t, e, e, lengthsBy(t, e))
	}
}
