package expand

import (
	"slices"

	"bolter/api"
	"bolter/byteset"
)

// part is a core on the way. It is never written into: where it stands several times, these share their lists.
type part struct {
	core     api.Expr
	nullable bool
}

// builder tells the parts of expressions, once the definitions that they use are known.
func builder(defs map[string]def) func(e api.Expr) part {
	var build func(e api.Expr) part
	build = func(e api.Expr) part {
		switch e.Op {
		case api.OpSet:
			return setOf(e.Set)
		case api.OpWord:
			return wordOf(e.Text)
		case api.OpRef:
			return defs[e.Text].part
		case api.OpCat:
			return catOf(e.Args, build)
		case api.OpAlt:
			return altOf(e.Args, build)
		case api.OpRepeat:
			// What is counted 0 times may have too many positions.
			if e.Max != 0 {
				return counted(build(e.Args[0]), e.Min, e.Max)
			}
		}
		return emptyPart()
	}
	return build
}

func emptyPart() part {
	return part{api.Expr{Op: api.OpEmpty}, true}
}

func isEmpty(p part) bool {
	return p.core.Op == api.OpEmpty
}

func setOf(s api.Set) part {
	return part{core: api.Expr{Op: api.OpSet, Set: s}}
}

func wordOf(text string) part {
	var args []part
	for i := range len(text) {
		args = append(args, setOf(byteset.Of(text[i])))
	}
	return cat(args)
}

func catOf(l []api.Expr, build func(e api.Expr) part) part {
	var args []part
	for _, e := range l {
		if p := build(e); !isEmpty(p) {
			args = append(args, p)
		}
	}
	return cat(args)
}

// altOf drops what is empty behind what is nullable at once, so that its list is no longer than there are positions.
func altOf(l []api.Expr, build func(e api.Expr) part) part {
	var args []part
	nullable, other := false, false
	for _, e := range l {
		p := build(e)
		if !isEmpty(p) || !nullable {
			args = append(args, p)
		}
		nullable = nullable || p.nullable
		other = other || p.nullable && !isEmpty(p)
	}
	if other {
		args = slices.DeleteFunc(args, isEmpty)
	}
	if len(args) == 1 {
		return args[0]
	}
	return part{joined(api.OpAlt, args), nullable}
}

// cat is of arguments none of which is empty.
func cat(args []part) part {
	switch len(args) {
	case 0:
		return emptyPart()
	case 1:
		return args[0]
	}
	nullable := true
	for _, p := range args {
		nullable = nullable && p.nullable
	}
	return part{joined(api.OpCat, args), nullable}
}

func joined(op int, args []part) api.Expr {
	e := api.Expr{Op: op}
	for _, p := range args {
		e.Args = append(e.Args, p.core)
	}
	return e
}

// own is a core all of whose lists are its own.
func own(e api.Expr) api.Expr {
	var args []api.Expr
	for _, arg := range e.Args {
		args = append(args, own(arg))
	}
	e.Args = args
	return e
}
