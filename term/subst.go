package term

import (
	"triforium/api"
	"triforium/types"
)

// change says what becomes of a node with some Abs around. If it is whole, this takes the place of the node with its Kids; otherwise its Kids are still to be changed.
type change func(t api.Term, around int) (now api.Term, whole bool)

// rewrite returns a term in which all nodes are changed, each one ahead of its Kids.
func rewrite(t api.Term, around int, f change) api.Term {
	now, whole := f(t, around)
	if whole || len(now.Kids) == 0 {
		return now
	}
	if now.Op == api.Abs {
		around++
	}
	return eachKid(now, func(k api.Term) api.Term { return rewrite(k, around, f) })
}

// binder is the change of Bind.
type binder struct {
	x api.Term
}

func (b binder) change(t api.Term, around int) (api.Term, bool) {
	if t.Op == api.Free && Equal(b.x, t) {
		return api.Term{Op: api.Bound, Num: around}, true
	}
	if isLoose(t, around) {
		t.Num++
	}
	return t, false
}

// isLoose reports whether a node is a Bound beyond the Abs around it.
func isLoose(t api.Term, around int) bool {
	return t.Op == api.Bound && t.Num >= around
}

// Bind returns the body of an abstraction over a fixed variable; Put a body with a term for its variable.
func Bind(x, t api.Term) api.Term {
	return Copy(rewrite(t, 0, binder{x}.change))
}

// putter is the change of Put.
type putter struct {
	a api.Term
}

func (p putter) change(t api.Term, around int) (api.Term, bool) {
	if !isLoose(t, around) {
		return t, false
	}
	if t.Num == around {
		return lift(p.a, around), true
	}
	t.Num--
	return t, false
}

func Put(body, a api.Term) api.Term {
	return Copy(put(body, a))
}

func put(body, a api.Term) api.Term {
	return rewrite(body, 0, putter{a}.change)
}

// lifter is the change of Lift.
type lifter struct {
	n int
}

func (l lifter) change(t api.Term, around int) (api.Term, bool) {
	if isLoose(t, around) {
		t.Num += l.n
	}
	return t, false
}

// Lift adds a number to the loose bound variables.
func Lift(t api.Term, n int) api.Term {
	return Copy(lift(t, n))
}

func lift(t api.Term, n int) api.Term {
	if n == 0 || Closed(t) {
		return t
	}
	return rewrite(t, 0, lifter{n}.change)
}

// Closed reports whether no bound variable is loose.
func Closed(t api.Term) bool {
	return closedWithin(&t, 0)
}

func closedWithin(t *api.Term, around int) bool {
	if isLoose(*t, around) {
		return false
	}
	if t.Op == api.Abs {
		around++
	}
	for i := range t.Kids {
		if !closedWithin(&t.Kids[i], around) {
			return false
		}
	}
	return true
}

// raiser is the change of Raise.
type raiser struct {
	n int
}

func (r raiser) change(t api.Term, _ int) (api.Term, bool) {
	if t.Op == api.Var {
		t.Num += r.n
	}
	t.Type = types.Raise(t.Type, r.n)
	return t, false
}

func Raise(t api.Term, n int) api.Term {
	return rewrite(t, 0, raiser{n}.change) // all of it is new
}
