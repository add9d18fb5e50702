package unify

import (
	"iter"
	"slices"

	"triforium/api"
	"triforium/pattern"
	"triforium/term"
	"triforium/types"
)

// pair is two terms of one type, with the types of the bound variables that are loose in them, the outermost one first.
type pair struct {
	around []api.Type
	a, b   closure
}

func abstraction(l []api.Type, t api.Term) api.Term {
	for _, k := range slices.Backward(l) {
		t = api.Term{Op: api.Abs, Name: "x", Type: k, Kids: []api.Term{t}}
	}
	return t
}

func bound(n int) api.Term { return api.Term{Op: api.Bound, Num: n} }

// simplifier takes pairs one after the other.
type simplifier struct {
	viewer
	todo []pair
	left []leftPair
}

// leftPair is a pair that is left, with the values of its sides, of which one is flexible.
type leftPair struct {
	around []api.Type
	a, b   value
}

func (p leftPair) hasRigid() bool {
	return !p.a.isFlexible() || !p.b.isFlexible()
}

// pairs returns pairs that are left as such that are to be simplified.
func pairs(l []leftPair) []pair {
	var out []pair
	for _, p := range l {
		out = append(out, pair{p.around, p.a.closure(), p.b.closure()})
	}
	return out
}

// simplify simplifies pairs, and returns what is left; false, if the state fails.
func simplify(s *pattern.State, l []pair) ([]leftPair, bool) {
	x := simplifier{viewer: newViewer(s), todo: l}
	for len(x.todo) > 0 {
		if len(x.todo)+len(x.left) > MaxPairs || !x.step() {
			return nil, false
		}
	}
	return x.left, true
}

// step takes the first pair; false, if the state fails.
func (x *simplifier) step() bool {
	p := x.todo[0]
	x.todo = x.todo[1:]
	a, ok := x.value(p.a)
	if !ok {
		return false
	}
	b, ok := x.value(p.b)
	if !ok {
		return false
	}
	switch {
	case a.head.Op == api.Abs:
		return x.bodies(p.around, a, b, a.head.Type)
	case b.head.Op == api.Abs:
		return x.bodies(p.around, a, b, b.head.Type)
	case !a.isFlexible() && !b.isFlexible():
		return x.decompose(p.around, a, b)
	case a.isFlexible() && b.isFlexible():
		return x.flexible(leftPair{p.around, a, b})
	case a.isFlexible():
		return x.solve(leftPair{p.around, a, b}, a, b)
	}
	return x.solve(leftPair{p.around, a, b}, b, a)
}

// keep puts a pair at the end of what is left.
func (x *simplifier) keep(p leftPair) bool {
	x.left = append(x.left, p)
	return true
}

// bodies puts the pair of the bodies in the place of one with an abstraction over a type.
func (x *simplifier) bodies(around []api.Type, a, b value, t api.Type) bool {
	n := len(around)
	x.first(pair{slices.Concat(around, []api.Type{t}), a.body(n), b.body(n)})
	return true
}

// first puts pairs ahead of all others.
func (x *simplifier) first(l ...pair) {
	x.todo = slices.Concat(l, x.todo)
}

// decompose puts the pairs of the arguments in the place of one of two rigid terms.
func (x *simplifier) decompose(around []api.Type, a, b value) bool {
	if len(a.args) != len(b.args) || x.SameHead(a.head, b.head) != api.OK {
		return false
	}
	l := make([]pair, len(a.args))
	for i := range l {
		l[i] = pair{around, a.args[i], b.args[i]}
	}
	x.first(l...)
	return true
}

// flexible takes a pair of two flexible terms.
func (x *simplifier) flexible(p leftPair) bool {
	xs, ok := x.bounds(p.a, len(p.around))
	if !ok {
		return x.keep(p)
	}
	ys, ok := x.bounds(p.b, len(p.around))
	if !ok {
		return x.keep(p)
	}
	some, e := x.Flexible(p.a.head, p.b.head, xs, ys)
	if some {
		x.again()
	}
	return e == api.OK
}

// solve takes a pair of a flexible and a rigid term.
func (x *simplifier) solve(p leftPair, flex, rigid value) bool {
	xs, ok := x.bounds(flex, len(p.around))
	if !ok {
		return x.keep(p)
	}
	switch x.look(rigid, len(p.around)) {
	case isNone:
		return x.keep(p)
	case isHuge:
		return false
	}
	t, ok := x.term(rigid, len(p.around))
	if !ok || x.Solve(flex.head, xs, t) != api.OK {
		return false
	}
	x.again()
	return true
}

// again puts what is left ahead of all others: a variable that was bound may have changed it.
func (x *simplifier) again() {
	x.first(pairs(x.left)...)
	x.left = nil
}

// search is a search on its way.
type search struct {
	problem
	made int // candidates
}

// all yields the unifiers that a search to a depth finds.
func (p problem) all(depth int) iter.Seq[Unifier] {
	return func(yield func(Unifier) bool) {
		s, ok := p.begin()
		if !ok {
			return
		}
		x := search{problem: p}
		for u := range x.from(s, p.pairs, depth) {
			if !yield(u) {
				return
			}
		}
	}
}

// from yields the unifiers that are found from a state, which it changes, with pairs.
func (x *search) from(s *pattern.State, l []pair, depth int) iter.Seq[Unifier] {
	return func(yield func(Unifier) bool) {
		left, ok := simplify(s, l)
		if !ok {
			return
		}
		i := slices.IndexFunc(left, leftPair.hasRigid)
		if i < 0 {
			if u, ok := x.unifier(s, left); ok {
				yield(u)
			}
			return
		}
		if depth == 0 {
			return
		}
		for _, bind := range candidates(left[i]) {
			next := s.Copy()
			e, made := bind(next)
			if !made {
				continue
			}
			if x.made == maxCandidates {
				return
			}
			x.made++
			if e != api.OK {
				continue
			}
			for u := range x.from(next, pairs(left), depth-1) {
				if !yield(u) {
					return
				}
			}
		}
	}
}

// candidate binds the head of the flexible side of a pair in a state; false, if it cannot be made.
type candidate func(s *pattern.State) (api.Errno, bool)

// candidates returns the imitation and the projections of a pair with a rigid side, in order.
func candidates(p leftPair) []candidate {
	flex, rigid := p.a, p.b
	if !flex.isFlexible() {
		flex, rigid = rigid, flex
	}
	f, n := flex.head, len(flex.args)
	c, m := rigid.head, len(rigid.args)
	var l []candidate
	if c.Op == api.Const || c.Op == api.Free {
		l = append(l, func(s *pattern.State) (api.Errno, bool) { return imitate(s, f, n, c, m) })
	}
	for i := range n {
		l = append(l, func(s *pattern.State) (api.Errno, bool) { return project(s, f, n, i) })
	}
	return l
}

// imitate binds a variable with n arguments to functions of these, to which a head with m arguments is applied.
func imitate(s *pattern.State, f api.Term, n int, c api.Term, m int) (api.Errno, bool) {
	around, _, e := s.Arguments(f.Type, n)
	if e != api.OK {
		return e, true
	}
	args, _, e := s.Arguments(c.Type, m)
	if e != api.OK {
		return e, true
	}
	return s.Bind(f, applied(s, around, c, args)), true
}

// project binds a variable with n arguments to functions of these, to which the argument i is applied.
func project(s *pattern.State, f api.Term, n, i int) (api.Errno, bool) {
	around, result, e := s.Arguments(f.Type, n)
	if e != api.OK {
		return e, false
	}
	a, e := s.TypeNow(around[i])
	if e != api.OK {
		return e, false
	}
	t, e := s.TypeNow(result)
	if e != api.OK {
		return e, false
	}
	args, end := types.Strip(a)
	wanted, _ := types.Strip(t)
	k := len(args) - len(wanted)
	if k < 0 {
		return api.ErrFail, false
	}
	for _, w := range slices.Backward(args[k:]) {
		end = types.Fun(w, end)
	}
	if e := s.UnifyTypes(end, t); e != api.OK {
		return e, false
	}
	return s.Bind(f, applied(s, around, bound(n-1-i), args[:k])), true
}

// applied returns the function of variables of some types that applies a head to new functions of these, with results of some other types.
func applied(s *pattern.State, around []api.Type, c api.Term, results []api.Type) api.Term {
	var xs []api.Term
	for i := range around {
		xs = append(xs, bound(len(around)-1-i))
	}
	var args []api.Term
	for _, r := range results {
		h := s.New(around, r)
		args = append(args, term.Apps(h, xs))
	}
	return abstraction(around, term.Apps(c, args))
}
