package pattern

import (
	"iter"

	"triforium/api"
	"triforium/term"
	"triforium/types"
)

// The terms here share memory with each other, and with what is given: none is changed, and results are copied.

// spine returns the head of applications and its arguments.
func spine(t api.Term) (api.Term, []api.Term) {
	n := 0
	for k := t; k.Op == api.App && len(k.Kids) == 2; k = k.Kids[0] {
		n++
	}
	args := make([]api.Term, n)
	for n > 0 {
		n--
		args[n] = t.Kids[1]
		t = t.Kids[0]
	}
	return t, args
}

// apps applies a head to arguments.
func apps(f api.Term, args []api.Term) api.Term {
	for _, a := range args {
		f = api.Term{Op: api.App, Kids: []api.Term{f, a}}
	}
	return f
}

func bound(n int) api.Term { return api.Term{Op: api.Bound, Num: n} }

// abstraction returns an abstraction of a body over variables of some types, the outermost one first.
func abstraction(l []api.Type, body api.Term) api.Term {
	for i := len(l) - 1; i >= 0; i-- {
		body = api.Term{Op: api.Abs, Name: "x", Type: l[i], Kids: []api.Term{body}}
	}
	return body
}

// function returns the type of functions from some types.
func function(args []api.Type, result api.Type) api.Type {
	for i := len(args) - 1; i >= 0; i-- {
		result = types.Fun(args[i], result)
	}
	return result
}

// looseFrom returns 1 more than the greatest loose bound variable of a term within some abstractions; 0, if it has none.
func looseFrom(t *api.Term, around int) int {
	if t.Op == api.Bound {
		return max(0, t.Num-around+1)
	}
	if t.Op == api.Abs {
		around++
	}
	n := 0
	for i := range t.Kids {
		n = max(n, looseFrom(&t.Kids[i], around))
	}
	return n
}

// lift adds a number to the loose bound variables of a term.
func lift(t api.Term, n int) api.Term {
	if n == 0 || looseFrom(&t, 0) == 0 {
		return t
	}
	out, _ := rename(t, 0, func(k int) (int, bool) { return k + n, true })
	return out
}

// rename replaces the loose bound variables of a term within some abstractions by others; false, if there is none for one of them.
func rename(t api.Term, around int, to func(int) (int, bool)) (api.Term, bool) {
	if t.Op == api.Bound && t.Num >= around {
		n, ok := to(t.Num - around)
		t.Num = n + around
		return t, ok
	}
	if len(t.Kids) == 0 {
		return t, true
	}
	if t.Op == api.Abs {
		around++
	}
	kids := make([]api.Term, len(t.Kids))
	for i, k := range t.Kids {
		now, ok := rename(k, around, to)
		if !ok {
			return api.Term{}, false
		}
		kids[i] = now
	}
	t.Kids = kids
	return t, true
}

// place is where a variable stands in a term: with its arguments, and so many abstractions around.
type place struct {
	v      api.Term
	args   []api.Term
	around int
}

// places yields the places of the Vars of a beta-normal term, from the outside to the inside and from the left to the right.
func places(t api.Term) iter.Seq[place] {
	return func(yield func(place) bool) {
		visit(t, 0, yield)
	}
}

func visit(t api.Term, around int, yield func(place) bool) bool {
	head, args := spine(t)
	if head.Op == api.Abs && !visit(head.Kids[0], around+1, yield) {
		return false
	}
	if head.Op == api.Var && !yield(place{head, args, around}) {
		return false
	}
	for _, a := range args {
		if !visit(a, around, yield) {
			return false
		}
	}
	return true
}

// maxWork is how many nodes may be made when the terms of binds are put into a term: a term of few nodes may have a normal form beyond any bound.
const maxWork = 1 << 20

// reducer puts beta-normal terms for variables, and makes the beta-normal form of what comes out.
type reducer struct {
	work int // nodes made
}

// count counts nodes that are made, or panics, if they are too many.
func (r *reducer) count(n int) {
	r.work += n
	if r.work > maxWork {
		panic(api.ErrLarge)
	}
}

// apply returns the normal form of a function applied to arguments.
func (r *reducer) apply(f api.Term, args []api.Term) api.Term {
	for len(args) > 0 && f.Op == api.Abs {
		n := 0
		for n < len(args) && f.Op == api.Abs {
			f = f.Kids[0]
			n++
		}
		p := newPutter(r, args[:n])
		f, _ = p.put(f, 0)
		args = args[n:]
	}
	r.count(len(args))
	return apps(f, args)
}

// putter puts terms for the innermost loose variables of a body.
type putter struct {
	*reducer
	args  []api.Term // that of the outermost variable first
	loose []bool     // of each of them, whether it has loose variables
}

func newPutter(r *reducer, args []api.Term) putter {
	p := putter{r, args, make([]bool, len(args))}
	for i := range args {
		p.loose[i] = looseFrom(&args[i], 0) > 0
	}
	return p
}

// put returns what becomes of a part of the body within some abstractions, and whether it changes.
func (p putter) put(t api.Term, around int) (api.Term, bool) {
	head, args := spine(t)
	if head.Op == api.Abs {
		body, changed := p.put(head.Kids[0], around+1)
		if !changed {
			return t, false
		}
		p.count(1)
		head.Kids = []api.Term{body}
		return head, true
	}
	args, changed := p.putAll(args, around)
	if head.Op != api.Bound || head.Num < around {
		if !changed {
			return t, false
		}
		p.count(len(args))
		return apps(head, args), true
	}
	k := head.Num - around
	if k >= len(p.args) {
		p.count(1 + len(args))
		return apps(bound(head.Num-len(p.args)), args), true
	}
	return p.apply(p.arg(len(p.args)-1-k, around), args), true
}

// putAll is put of all elements; those that it changes are in new memory.
func (p putter) putAll(l []api.Term, around int) ([]api.Term, bool) {
	some := false
	for i, t := range l {
		now, changed := p.put(t, around)
		if changed {
			l[i] = now // spine has made this list
			some = true
		}
	}
	return l, some
}

// arg returns an argument within some abstractions.
func (p putter) arg(i, around int) api.Term {
	if !p.loose[i] || around == 0 {
		return p.args[i]
	}
	nodes, _ := term.Size(p.args[i])
	p.count(nodes)
	return lift(p.args[i], around)
}
