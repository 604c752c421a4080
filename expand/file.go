package expand

import (
	"bolter/api"
	"bolter/fault"
	"bolter/names"
)

// file is what a rule file comes to.
type file struct {
	order []int          // its definitions, each behind those that it uses
	defs  map[string]def // what they come to, by their names
	sizes []int          // of each rule how many positions it has
}

type def struct {
	size int
	part part // none, if it has too many positions
}

// measured reckons how many positions all have; no core is made yet, since it may be too great.
func measured(s api.Spec) (file, error) {
	n, err := names.Resolve(s)
	if err != nil {
		return file{}, err
	}
	if err := overcount(s); err != nil {
		return file{}, err
	}
	f := file{order: n.Order, defs: map[string]def{}}
	size := sizer(f.defs)
	for _, i := range f.order {
		d := s.Defs[i]
		f.defs[d.Name] = def{size: size(d.Expr)}
	}
	for _, u := range s.Rules {
		f.sizes = append(f.sizes, min(size(u.Head)+size(u.Trail), tooMany))
	}
	return f, nil
}

// overcount refuses a count that is too great, wherever it stands.
func overcount(s api.Spec) error {
	found, at := false, 0
	var look func(e api.Expr)
	look = func(e api.Expr) {
		if max(e.Min, e.Max) > api.MaxRepeat && (!found || e.At < at) {
			found, at = true, e.At
		}
		for _, arg := range e.Args {
			look(arg)
		}
	}
	for _, d := range s.Defs {
		look(d.Expr)
	}
	for _, u := range s.Rules {
		look(u.Head)
		look(u.Trail)
	}
	if !found {
		return nil
	}
	return fault.Place(fault.ErrRepeat, at)
}

// sizer tells how many positions expressions have, once the definitions that they use are known.
func sizer(defs map[string]def) func(e api.Expr) int {
	var size func(e api.Expr) int
	size = func(e api.Expr) int {
		switch e.Op {
		case api.OpSet:
			return 1
		case api.OpWord:
			return min(len(e.Text), tooMany)
		case api.OpRef:
			return defs[e.Text].size
		case api.OpRepeat:
			return min(written(e)*size(e.Args[0]), tooMany)
		}
		n := 0
		for _, arg := range e.Args {
			n = min(n+size(arg), tooMany)
		}
		return n
	}
	return size
}

// written is how often a count's argument stands in what is written out.
func written(e api.Expr) int {
	if e.Max == -1 {
		return max(e.Min, 1)
	}
	return e.Max
}

func sum(sizes []int) int {
	n := 0
	for _, size := range sizes {
		n += size
	}
	return n
}

// cores tells how cores are made of expressions that have no more positions than may be.
func (f file) cores(defs []api.Def) func(e api.Expr) api.Expr {
	build := builder(f.defs)
	for _, i := range f.order {
		d := defs[i]
		// One that is greater is used by no rule, but where it is counted 0 times.
		if size := f.defs[d.Name].size; size <= api.MaxPositions {
			f.defs[d.Name] = def{size, build(d.Expr)}
		}
	}
	return func(e api.Expr) api.Expr { return own(build(e).core) }
}
