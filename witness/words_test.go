package witness_test

import (
	"strconv"
	"strings"
	"sync"
	"testing"

	"bolter/api"
	"bolter/samples"
	"bolter/witness"
)

// P13.5

func TestWordsOfLabels(t *testing.T) {
	for rules, want := range map[string]string{
		"": "", "rule [] => t": "", "rule () => t": "0:", "rule \"a\"* => t": "0:", "rule [^]+ => t": "0:\x00", `rule "ab"|"c" => t`: "0:c",
		"rule [a-z]+ => t\nrule \"if\" => u\nrule () => v\nrule \"0\"+ => w":    "0:a 2: 3:0",
		"rule \"zzz\" => t\nrule \"yy\" => u\nrule \"x\" => v\nrule () => w":    "0:zzz 1:yy 2:x 3:",
		"rule \"if\" => t\nrule [a-z]+ => u\nrule [\\xf0-\\xff]{2} => v":        "0:if 1:a 2:\xf0\xf0",
		"rule [ab] => t\nrule \"a\" => u\nrule \"c\"|\"b\" => v\nrule [^] => w": "0:a 2:c 3:\x00",
		"rule \"ab\"|\"ba\" => t\nrule \"aa\" / \"b\"* => u\nrule \"aab\" => v": "0:ab 1:aa",
	} {
		if got := wordsOf(denseOf(t, rules)); got != want {
			t.Errorf("%s: %q, want %q", rules, got, want)
		}
	}
}

func TestWordsOfAutomata(t *testing.T) {
	for what, c := range map[string]struct {
		d    api.Dense
		want string
	}{
		"no label": {samples.States(1), ""}, "one state": {byTwo([]int{7}, [2]int{}), "7:"}, "by the last byte": {lastByteTo(199), "199:\xff"}, "not reached": {byTwo([]int{-1, 5}, [2]int{0, 0}, [2]int{0, 1}), ""},
		"found as they fall": {byTwo([]int{9, 8, 3, 199}, [2]int{1, 2}, [2]int{1, 3}, [2]int{2, 2}, [2]int{3, 3}), "3:a 8:\x00 9: 199:\x00a"},
	} {
		if got := wordsOf(c.d); got != c.want {
			t.Errorf("%s: %q, want %q", what, got, c.want)
		}
	}
}

// wordsBy puts together what Word tells of all labels.
func wordsBy(t *testing.T, d api.Dense) string {
	t.Helper()
	var l []string
	for label := range api.MaxRules {
		if x := wordOf(t, shown(d), d, label); x.there {
			l = append(l, strconv.Itoa(label)+":"+x.word)
		}
	}
	return strings.Join(l, " ")
}

func TestWordsAreFirstOnes(t *testing.T) {
	c := chance{11}
	for range 40 {
		d := c.dense(12, 30)
		if got, want := wordsOf(d), wordsBy(t, d); got != want {
			t.Errorf("%s: %q, want %q", shown(d), got, want)
		}
	}
	for _, d := range []api.Dense{samples.States(600), samples.States(201), c.Dense(600, 200)} {
		if got, want := wordsOf(d), wordsBy(t, d); got != want {
			t.Errorf("%d states: %q, want %q", len(d.Next), short(got), short(want))
		}
	}
}

const someRules = "rule [a-z]+ => t\nrule \"if\" => u\nrule () => v\nrule \"0\"+ => w\nrule \"-\"\"0\"+ => x"

const someWords = "0:a 2: 3:0 4:-0"

func TestWordsAsOftenAsOneLikes(t *testing.T) {
	words := witness.Words(denseOf(t, someRules))
	for range 3 {
		got := ""
		for label, w := range words {
			got += strconv.Itoa(label) + ":" + string(w) + " "
			// the words are the caller's
			clear(w)
			w = append(w, "xyz"...)
			clear(w)
		}
		if got != someWords+" " {
			t.Errorf("%q", got)
		}
	}
}

// Whoever leaves is asked no more, and may begin again.
func TestWordsLeftEarly(t *testing.T) {
	words := witness.Words(denseOf(t, someRules))
	for most := 1; most <= 4; most++ {
		count := 0
		words(func(label int, w []byte) bool {
			count++
			return count < most
		})
		if count != most {
			t.Errorf("asked %d times, left at the %d.", count, most)
		}
		for label := range words {
			if label != 0 {
				t.Errorf("begun with %d", label)
			}
			break
		}
	}
}

// One that is ranged over while another one is has nothing in common with it.
func TestWordsWithinWords(t *testing.T) {
	words := witness.Words(denseOf(t, someRules))
	outer := ""
	for label, w := range words {
		inner := ""
		for label, w := range words {
			inner += strconv.Itoa(label) + ":" + string(w) + " "
			clear(w)
		}
		if inner != someWords+" " {
			t.Errorf("within: %q", inner)
		}
		outer += strconv.Itoa(label) + ":" + string(w) + " "
	}
	if outer != someWords+" " {
		t.Errorf("%q", outer)
	}
}

func TestWordsSideBySide(t *testing.T) {
	words := witness.Words(denseOf(t, someRules))
	var all sync.WaitGroup
	got := make([]string, 8)
	for i := range got {
		all.Go(func() {
			for label, w := range words {
				got[i] += strconv.Itoa(label) + ":" + string(w) + " "
				clear(w)
			}
		})
	}
	all.Wait()
	for _, text := range got {
		if text != someWords+" " {
			t.Errorf("%q", text)
		}
	}
}

// The automaton is not kept: whoever writes into it changes no words, neither ahead of them nor amid.
func TestWordsOfWhatIsWrittenOver(t *testing.T) {
	d := denseOf(t, someRules)
	words := witness.Words(d)
	for label := range words {
		if label == 2 {
			for _, row := range d.Next {
				clear(row)
			}
			clear(d.Next)
		}
	}
	for s := range d.Label {
		d.Label[s] = 77
	}
	got := ""
	for label, w := range words {
		got += strconv.Itoa(label) + ":" + string(w) + " "
	}
	if got != someWords+" " {
		t.Errorf("%q", got)
	}
}

func TestWordsOfNone(t *testing.T) {
	for what, d := range samples.NotDense() {
		words := witness.Words(d)
		for range 2 {
			for label, w := range words {
				t.Errorf("%s: %d, %q", what, label, w)
			}
		}
	}
	// what becomes one later has no words, either
	d := samples.Two()
	d.Label[0] = 200
	words := witness.Words(d)
	d.Label[0] = 1
	for label, w := range words {
		t.Errorf("%d, %q", label, w)
	}
}
