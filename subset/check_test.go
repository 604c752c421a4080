package subset_test

import (
	"bytes"
	"testing"

	"bolter/api"
	"bolter/samples"
	"bolter/subset"
)

// P11.3

func TestDenseThatMayBe(t *testing.T) {
	for what, change := range map[string]func(d *api.Dense){
		"as it is":                  func(d *api.Dense) {},
		"one state":                 func(d *api.Dense) { *d = states(1) },
		"all labels":                func(d *api.Dense) { *d = states(201) },
		"600 states":                func(d *api.Dense) { *d = states(600) },
		"the greatest label":        func(d *api.Dense) { d.Label = []int{199, 199} },
		"none":                      func(d *api.Dense) { d.Label = []int{-1, -1} },
		"a state that is not found": func(d *api.Dense) { d.Next[0]['a'] = 0 },
		"other numbers":             func(d *api.Dense) { d.Next[0][0], d.Next[0][255], d.Next[1][0] = 1, 1, 0 },
		"one row for two":           func(d *api.Dense) { d.Next[1] = d.Next[0] },
	} {
		d := two()
		change(&d)
		if !subset.Check(d) {
			t.Errorf("%s may not be", what)
		}
	}
}

func TestDenseThatMayNotBe(t *testing.T) {
	for what, d := range samples.NotDense() {
		if subset.Check(d) {
			t.Errorf("%s may be", what)
		}
		for _, text := range []string{"", "a", "abc"} {
			if s, err := subset.Run(d, []byte(text)); s != 0 || !isFault(err, api.CodeArg) {
				t.Errorf("%s, behind %q: %d, %v", what, text, s, err)
			}
		}
	}
}

// Each place of an automaton is looked at.
func TestEachPlaceIsChecked(t *testing.T) {
	for s := range 3 {
		for b := range 256 {
			for _, to := range []int{-1, 3} {
				d := states(3)
				d.Next[s][b] = to
				if subset.Check(d) {
					t.Errorf("%d by %d to %d may be", s, b, to)
				}
			}
		}
	}
	great := states(600)
	great.Next[599][255] = 600
	if subset.Check(great) {
		t.Error("600 states, and one that is none, may be")
	}
}

func wantRun(t *testing.T, d api.Dense, text string, want int) {
	t.Helper()
	if s, err := subset.Run(d, []byte(text)); s != want || err != nil {
		t.Errorf("behind %s: %d, %v; want %d", short(text), s, err, want)
	}
}

func TestRuns(t *testing.T) {
	for text, want := range map[string]int{"": 0, "a": 1, "b": 0, "ba": 1, "aa": 0, "ab": 1, "aba": 0, "aaa": 1, "\x00a\xff": 1, "\xffaa": 0} {
		wantRun(t, two(), text, want)
	}
	wantRun(t, states(1), "abc", 0)
	wantRun(t, states(600), "", 0)
	wantRun(t, states(600), string(make([]byte, 598)), 598)
	wantRun(t, states(600), string(make([]byte, 599)), 599)
	wantRun(t, states(600), string(make([]byte, 1<<20)), 599)
	if s, err := subset.Run(two(), nil); s != 0 || err != nil {
		t.Errorf("behind nothing: %d, %v", s, err)
	}
	// Longer than a rule file may be, and than any word that is counted.
	wantRun(t, two(), string(bytes.Repeat([]byte("a"), 1<<20+1)), 1)
}

// Each byte leads by its own number.
func TestRunsOfEachByte(t *testing.T) {
	d := states(256)
	d.Next[0] = upTo(0, 255)
	for b := range 256 {
		wantRun(t, d, string([]byte{byte(b)}), b)
		wantRun(t, d, string([]byte{0, byte(b), 0}), min(255, b+1)*min(b, 1))
	}
}
