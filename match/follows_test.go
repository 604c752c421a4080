package match_test

import (
	"slices"
	"testing"

	"bolter/api"
	"bolter/byteset"
	"bolter/match"
)

// P9.6

func endsOf(t *testing.T, e api.Expr, text string) []int {
	t.Helper()
	ends, err := match.Ends(e, []byte(text))
	if err != nil {
		t.Fatalf("%+v: %v", e, err)
	}
	return ends
}

func nextOf(t *testing.T, e api.Expr, text string) api.Set {
	t.Helper()
	next, err := match.Next(e, []byte(text))
	if err != nil {
		t.Fatalf("%+v: %v", e, err)
	}
	return next
}

func labelOf(t *testing.T, l []api.Core, active []int, text string) int {
	t.Helper()
	label, err := match.Label(l, active, []byte(text))
	if err != nil {
		t.Fatalf("%+v: %v", l, err)
	}
	return label
}

// A number is among the ends of a text just if the text's beginning is a word alone, and each byte of a word may stand there.
func TestEndsAreWordsAlone(t *testing.T) {
	c := chance{6}
	words := 0
	for range 3000 {
		e, text := c.core(4), c.Text(8)
		ends := endsOf(t, e, text)
		for n := range len(text) + 1 {
			alone := endsOf(t, e, text[:n])
			if slices.Contains(ends, n) != slices.Contains(alone, n) || !slices.Equal(alone, ends[:len(alone)]) {
				t.Fatalf("%+v over %q: %v, of %d bytes %v", e, text, ends, n, alone)
			}
			if slices.Contains(ends, n) && n > 0 {
				words++
				if !byteset.Has(nextOf(t, e, text[:n-1]), text[n-1]) {
					t.Fatalf("%+v: %q is a word, but its last byte may not stand there", e, text[:n])
				}
			}
		}
	}
	if words < 1000 {
		t.Errorf("%d words", words)
	}
}

// Next is empty just if no word goes on: whoever goes on with what it tells comes to a word.
func TestNextLeadsToWords(t *testing.T) {
	c := chance{7}
	led := 0
	for range 2000 {
		e, text := c.core(3), c.Text(4)
		ways := byteset.List(nextOf(t, e, text))
		if len(ways) == 0 {
			continue
		}
		for steps := 0; ; steps++ {
			// Where there is no way on, the text is to be a word.
			if len(ways) == 0 || steps > 100 {
				t.Fatalf("%+v: %q leads to no word", e, text)
			}
			text += string(ways[c.Of(len(ways)):][:1])
			if slices.Contains(endsOf(t, e, text), len(text)) {
				break
			}
			ways = byteset.List(nextOf(t, e, text))
		}
		led++
	}
	if led < 300 {
		t.Errorf("%d led", led)
	}
}

// The empty word has a label just if an active rule takes it, and is never a match; the longest match is the greatest beginning with a label.
func TestLongestHasALabel(t *testing.T) {
	c := chance{8}
	matches := 0
	for range 3000 {
		l, active := c.rules(3)
		text := c.Text(8)
		empty := slices.ContainsFunc(active, func(r int) bool { return len(endsOf(t, wordsOf(l[r]), "")) == 1 })
		if label := labelOf(t, l, active, ""); (label >= 0) != empty {
			t.Fatalf("%+v, %v: the empty word's label is %d", l, active, label)
		}
		n, label := len(text), -1
		for ; n > 0 && label < 0; n-- {
			label = labelOf(t, l, active, text[:n])
		}
		if label >= 0 {
			n++
			matches++
		}
		wantLongest(t, l, l, active, text, n, label)
		wantLongest(t, l, l, active, text[:n], n, label)
	}
	if matches < 1000 {
		t.Errorf("%d matches", matches)
	}
}
