package follow

import (
	"bolter/api"
	"bolter/expand"
	"bolter/places"
)

// tooMany is asked ahead of the walk: a set of places has no room for more.
func tooMany(l []api.Core) bool {
	count := 0
	for _, c := range l {
		// A trail that is none is no core, and has no size.
		count += expand.Size(c.Head) + expand.Size(c.Trail)
	}
	return count > api.MaxPositions
}

func ruleExpr(c api.Core) api.Expr {
	if c.HasTrail {
		return api.Expr{Op: api.OpCat, Args: []api.Expr{c.Head, c.Trail}}
	}
	return c.Head
}

// part is what is known of an expression, or of its arguments that are walked.
type part struct {
	nullable    bool
	first, last places.Set
}

// then is p with q behind it.
func (p part) then(q part) part {
	if p.nullable {
		p.first = p.first.With(q.first)
	}
	if q.nullable {
		q.last = q.last.With(p.last)
	}
	return part{p.nullable && q.nullable, p.first, q.last}
}

// or is p with q beside it.
func (p part) or(q part) part {
	return part{p.nullable || q.nullable, p.first.With(q.first), p.last.With(q.last)}
}

// open is an expression that is being walked: done of its arguments are, and come to part.
type open struct {
	expr api.Expr
	done int
	part part
}

// walk numbers the positions of one rule behind the other, and gathers what follows each of them.
type walk struct {
	sets  []api.Set
	owner []int // of each position its rule
	next  []places.Set
	rules []part
}

func (w *walk) rule(e api.Expr) {
	w.rules = append(w.rules, w.through(e))
	for len(w.owner) < len(w.sets) {
		w.owner = append(w.owner, len(w.rules)-1)
	}
}

// through keeps a stack of its own, since expressions may stand deep in one another.
func (w *walk) through(e api.Expr) part {
	var way stack[open]
	way.push(w.begin(e))
	for {
		if top := way.top(); top.done < len(top.expr.Args) {
			arg := top.expr.Args[top.done]
			top.done++
			way.push(w.begin(arg))
			continue
		}
		p := w.end(way.pop())
		if way.empty() {
			return p
		}
		w.take(way.top(), p)
	}
}

// begin is of an expression none of whose arguments are walked.
func (w *walk) begin(e api.Expr) open {
	o := open{expr: e}
	switch e.Op {
	case api.OpEmpty, api.OpCat:
		o.part.nullable = true
	case api.OpSet:
		p := places.Of(len(w.sets))
		o.part.first, o.part.last = p, p
		w.sets, w.next = append(w.sets, e.Set), append(w.next, places.Set{})
	}
	return o
}

func (w *walk) take(o *open, arg part) {
	if o.expr.Op == api.OpCat {
		w.link(o.part.last, arg.first)
		o.part = o.part.then(arg)
		return
	}
	o.part = o.part.or(arg)
}

func (w *walk) end(o open) part {
	if o.expr.Op == api.OpRepeat {
		if o.expr.Max == -1 {
			w.link(o.part.last, o.part.first)
		}
		o.part.nullable = o.part.nullable || o.expr.Min == 0
	}
	return o.part
}

// link lets each of to stand behind each of from.
func (w *walk) link(from, to places.Set) {
	for p := range from.All {
		w.next[p] = w.next[p].With(to)
	}
}
