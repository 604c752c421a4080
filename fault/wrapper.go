package fault

import (
	"strconv"
	"strings"
)

// wrapper is what the errors of this package that wrap another one have in common.
// Nobody else's error is one: says can't be written elsewhere.
type wrapper interface {
	error
	Unwrap() error
	says() string
}

// inner is what a wrapper wraps.
//
// Wrappers are told as pointers: a list of names, or what somebody else's error is made of, may not be
// comparable, and errors.Is holds errors against each other.
type inner struct {
	err error
}

func (w *inner) Unwrap() error { return w.err }

type placed struct {
	inner
	at int
}

type named struct {
	inner
	names []string
}

type inRule struct {
	inner
	rule int
}

type inStage struct {
	inner
	stage int
}

func (w *placed) says() string  { return "at " + strconv.Itoa(w.at) }
func (w *named) says() string   { return strings.Join(w.names, ", ") }
func (w *inRule) says() string  { return "rule " + strconv.Itoa(w.rule) }
func (w *inStage) says() string { return "stage " + strconv.Itoa(w.stage) }

func (w *placed) Error() string  { return words(w) }
func (w *named) Error() string   { return words(w) }
func (w *inRule) Error() string  { return words(w) }
func (w *inStage) Error() string { return words(w) }

// words goes down in one loop, since wrappers may be nested so deep that to copy each one's words
// into those of the next would take too long.
func words(err error) string {
	var b strings.Builder
	for {
		switch w := err.(type) {
		case wrapper:
			b.WriteString(w.says())
			b.WriteString(": ")
			err = w.Unwrap()
		default:
			guarded(func() { b.WriteString(err.Error()) })
			return b.String()
		}
	}
}
