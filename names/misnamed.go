package names

import (
	"bolter/api"
	"bolter/fault"
)

// blame keeps one name that may not stand where it does: of those that it is told the first one at the least place.
type blame struct {
	found bool
	name  string
	at    int
}

func (b *blame) tell(name string, at int) {
	if !b.found || at < b.at {
		*b = blame{true, name, at}
	}
}

func (b *blame) err() error {
	if !b.found {
		return nil
	}
	return fault.Named(fault.Place(fault.ErrName, b.at), b.name)
}

// misnamed goes through the names kind by kind: at one place a kind that is asked sooner stands ahead of the others.
func (k known) misnamed(s api.Spec) error {
	var b blame
	for i, m := range s.Modes {
		if first, ok := k.modes[m.Name]; ok && first < i {
			b.tell(m.Name, m.At)
		}
	}
	for i, d := range s.Defs {
		if first, ok := k.defs[d.Name]; ok && first < i {
			b.tell(d.Name, d.At)
		}
	}
	eachRefOf(s, func(ref api.Expr) {
		if _, ok := k.defs[ref.Text]; !ok {
			b.tell(ref.Text, ref.At)
		}
	})
	eachUse(s.Rules, func(use api.Use) {
		if _, ok := k.modes[use.Name]; !ok {
			b.tell(use.Name, use.At)
		}
	})
	return b.err()
}

func eachRefOf(s api.Spec, visit func(ref api.Expr)) {
	for _, d := range s.Defs {
		eachRef(d.Expr, visit)
	}
	for _, u := range s.Rules {
		eachRef(u.Head, visit)
		eachRef(u.Trail, visit)
	}
}

func eachUse(rules []api.Rule, visit func(use api.Use)) {
	for _, u := range rules {
		for _, use := range u.Modes {
			visit(use)
		}
		for _, a := range u.Acts {
			if a.Do != api.ActPop {
				visit(a.Mode)
			}
		}
	}
}
