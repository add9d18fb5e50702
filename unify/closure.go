package unify

import (
	"slices"

	"triforium/api"
	"triforium/pattern"
)

// closure is a term whose loose bound variables mean what stands in its environment, applied to further arguments.
// The normal form of a term may be beyond any bound, where a search looks at no more than its outermost parts: so terms are made normal only as far as they are looked at.
type closure struct {
	t    *api.Term
	env  *env
	args []closure
}

// env says what the bound variables mean, that of the innermost abstraction first: a value; or, without one, the loose variable with so many others around it.
type env struct {
	value *closure
	level int
	rest  *env
}

// of returns what stands behind so many others.
func (e *env) of(n int) *env {
	for ; n > 0; n-- {
		e = e.rest
	}
	return e
}

// value is what a closure is: an abstraction with its environment, or a head that is no redex with arguments. The Num of a Bound is its level here.
type value struct {
	head api.Term
	env  *env
	args []closure
}

// maxSteps is how many steps are made at most to look at the pairs of a state.
const maxSteps = 1000000

// viewer finds the values of closures as the binds of a state make them.
type viewer struct {
	*pattern.State
	steps *int // that may still be made
}

func newViewer(s *pattern.State) viewer {
	steps := maxSteps
	return viewer{s, &steps}
}

// value returns the value of a closure; false, if there are no steps left for it.
func (x viewer) value(c closure) (value, bool) {
	t, e := c.t, c.env
	stack := slices.Clone(c.args) // the next argument is the last one
	slices.Reverse(stack)
	for ; *x.steps > 0; *x.steps-- {
		switch t.Op {
		case api.App:
			stack = append(stack, closure{&t.Kids[1], e, nil})
			t = &t.Kids[0]
		case api.Abs:
			last := len(stack) - 1
			if last < 0 {
				return value{*t, e, nil}, true
			}
			a := stack[last]
			stack = stack[:last]
			e = &env{value: &a, rest: e}
			t = &t.Kids[0]
		case api.Bound:
			meant := e.of(t.Num)
			if meant.value == nil {
				return newValue(api.Term{Op: api.Bound, Num: meant.level}, stack), true
			}
			for _, a := range slices.Backward(meant.value.args) {
				stack = append(stack, a)
			}
			t, e = meant.value.t, meant.value.env
		case api.Var:
			to, ok := x.BindOf(*t)
			if !ok {
				return newValue(*t, stack), true
			}
			t, e = &to, nil
		default:
			return newValue(*t, stack), true
		}
	}
	return value{}, false
}

// newValue returns the value with a head and the arguments of a stack.
func newValue(head api.Term, stack []closure) value {
	slices.Reverse(stack)
	return value{head: head, args: stack}
}

// closure returns a closure with the value.
func (v value) closure() closure {
	if v.head.Op == api.Bound {
		return closure{&api.Term{Op: api.Bound}, &env{level: v.head.Num}, v.args}
	}
	return closure{&v.head, v.env, v.args}
}

// body returns the body of the value as an abstraction; of another one, which is one but for eta, what its body would be. Its variable has a level.
func (v value) body(level int) closure {
	if v.head.Op == api.Abs {
		return closure{&v.head.Kids[0], &env{level: level, rest: v.env}, nil}
	}
	x := closure{&api.Term{Op: api.Bound}, &env{level: level}, nil}
	c := v.closure()
	c.args = slices.Concat(c.args, []closure{x})
	return c
}

func (v value) isFlexible() bool { return v.head.Op == api.Var }

// bounds returns the arguments of the value, if they are different bound variables within some others.
func (x viewer) bounds(v value, around int) ([]api.Term, bool) {
	l := make([]api.Term, len(v.args))
	met := make(map[int]bool, len(v.args))
	for i, a := range v.args {
		b, ok := x.value(a)
		if !ok || b.head.Op != api.Bound || len(b.args) > 0 || met[b.head.Num] {
			return nil, false
		}
		met[b.head.Num] = true
		l[i] = bound(around - 1 - b.head.Num)
	}
	return l, true
}

// Kinds of terms, as far as they were looked at.
const (
	isPattern = iota
	isNone
	isHuge // a pattern as far as it was looked at, which is too large for a bind
)

// maxLook is how many nodes are looked at for one that is no part of a pattern.
const maxLook = 5 * api.MaxTerm

// look tells whether the normal form of a value is a pattern.
func (x viewer) look(v value, around int) int {
	l := looker{viewer: x}
	if !l.isPattern(v, around, 1) {
		return isNone
	}
	if l.nodes > api.MaxTerm {
		return isHuge
	}
	return isPattern
}

// looker counts the nodes that it looks at.
type looker struct {
	viewer
	nodes int
}

// isPattern reports whether a value within some abstractions and nodes is a pattern, as far as it is looked at.
func (l *looker) isPattern(v value, around, depth int) bool {
	l.nodes += 1 + len(v.args)
	if l.nodes > maxLook || depth > 2*api.MaxDepth {
		l.nodes = maxLook
		return true
	}
	if v.head.Op == api.Abs {
		return l.isClosurePattern(v.body(around), around+1, depth+1)
	}
	if v.isFlexible() {
		_, ok := l.bounds(v, around)
		l.nodes += len(v.args)
		return ok
	}
	for _, a := range v.args {
		if !l.isClosurePattern(a, around, depth+1) {
			return false
		}
	}
	return true
}

func (l *looker) isClosurePattern(c closure, around, depth int) bool {
	v, ok := l.value(c)
	if !ok {
		l.nodes = maxLook
		return true
	}
	return l.isPattern(v, around, depth)
}

// reader writes out normal forms.
type reader struct {
	viewer
	nodes int
}

// term returns the normal form of a value within some abstractions; false, if it is too large for a term.
func (x viewer) term(v value, around int) (api.Term, bool) {
	r := reader{viewer: x}
	return r.term(v, around, 1)
}

func (r *reader) term(v value, around, depth int) (api.Term, bool) {
	r.nodes += 1 + len(v.args)
	if r.nodes > api.MaxTerm || depth+len(v.args) > api.MaxDepth {
		return api.Term{}, false
	}
	t := v.head
	if t.Op == api.Abs {
		body, ok := r.closure(v.body(around), around+1, depth+1)
		t.Kids = []api.Term{body}
		return t, ok
	}
	if t.Op == api.Bound {
		t = bound(around - 1 - t.Num)
	}
	for i, c := range v.args {
		a, ok := r.closure(c, around, depth+len(v.args)-i)
		if !ok {
			return api.Term{}, false
		}
		t = api.Term{Op: api.App, Kids: []api.Term{t, a}}
	}
	return t, true
}

func (r *reader) closure(c closure, around, depth int) (api.Term, bool) {
	v, ok := r.value(c)
	if !ok {
		return api.Term{}, false
	}
	return r.term(v, around, depth)
}
