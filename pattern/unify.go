package pattern

import (
	"slices"

	"triforium/api"
)

// unify makes two patterns of one type equal, or leaves with an error.
func (s *State) unify(a, b api.Term) {
	a, b = s.headNow(a), s.headNow(b)
	if a.Op == api.Abs || b.Op == api.Abs {
		s.unify(Body(a), Body(b))
		return
	}
	f, xs := spine(a)
	g, ys := spine(b)
	switch {
	case f.Op == api.Var && g.Op == api.Var:
		s.flexible(f, g, xs, ys)
	case f.Op == api.Var:
		s.solve(f, xs, b)
	case g.Op == api.Var:
		s.solve(g, ys, a)
	default:
		s.sameHead(f, g)
		want(len(xs) == len(ys))
		for i := range xs {
			s.unify(xs[i], ys[i])
		}
	}
}

// Body returns the body of an abstraction; of another term, which is one but for eta, what its body would be.
func Body(t api.Term) api.Term {
	if t.Op == api.Abs {
		return t.Kids[0]
	}
	return apps(lift(t, 1), []api.Term{bound(0)})
}

// SameHead makes two heads of rigid terms the same: the types of constants are unified.
func (s *State) SameHead(f, g api.Term) api.Errno {
	return caught(func() { s.sameHead(f, g) })
}

func (s *State) sameHead(f, g api.Term) {
	want(f.Op == g.Op && f.Name == g.Name && f.Num == g.Num)
	if f.Op == api.Const {
		s.unifyTypes(f.Type, g.Type)
	}
}

// Flexible makes two variables with different bound variables as arguments equal, as binds make them. It reports whether it has bound a variable.
func (s *State) Flexible(f, g api.Term, xs, ys []api.Term) (some bool, err api.Errno) {
	err = caught(func() { some = s.flexible(f, g, xs, ys) })
	return some, err
}

func (s *State) flexible(f, g api.Term, xs, ys []api.Term) bool {
	if f.Name == g.Name && f.Num == g.Num {
		return s.sameArguments(f, xs, ys)
	}
	types, result := s.arguments(f.Type, len(xs))
	others, _ := s.arguments(g.Type, len(ys))
	var kept []int
	var places []int // in ys, of those that are kept
	for i, x := range xs {
		if k := indexOf(ys, x); k >= 0 {
			kept = append(kept, i)
			places = append(places, k)
		}
	}
	h := s.New(pick(types, kept), result)
	s.bind(f, choosing(h, types, kept))
	s.bind(g, choosing(h, others, places))
	return true
}

// sameArguments binds a variable so that it does not depend on the arguments at whose positions two lists differ.
func (s *State) sameArguments(f api.Term, xs, ys []api.Term) bool {
	var kept []int
	for i := range xs {
		if xs[i].Num == ys[i].Num {
			kept = append(kept, i)
		}
	}
	if len(kept) == len(xs) {
		return false
	}
	s.keep(f, len(xs), kept)
	return true
}

// keep binds a variable with n arguments to a new one that has some of them.
func (s *State) keep(f api.Term, n int, kept []int) {
	types, result := s.arguments(f.Type, n)
	h := s.New(pick(types, kept), result)
	s.bind(f, choosing(h, types, kept))
}

// pick returns the elements at some places.
func pick[T any](l []T, places []int) []T {
	out := make([]T, len(places))
	for i, k := range places {
		out[i] = l[k]
	}
	return out
}

// choosing returns the function of variables of some types that is another function of those at some places.
func choosing(h api.Term, types []api.Type, places []int) api.Term {
	args := make([]api.Term, len(places))
	for i, k := range places {
		args[i] = bound(len(types) - 1 - k)
	}
	return abstraction(types, apps(h, args))
}

// indexOf returns where a bound variable stands in a list, -1 if it does not.
func indexOf(l []api.Term, x api.Term) int {
	return slices.IndexFunc(l, func(y api.Term) bool { return x.Num == y.Num })
}

// Solve makes a variable with different bound variables as arguments, as binds make it, equal to a rigid pattern.
func (s *State) Solve(f api.Term, xs []api.Term, t api.Term) api.Errno {
	return caught(func() { s.solve(f, xs, t) })
}

func (s *State) solve(f api.Term, xs []api.Term, t api.Term) {
	t = s.now(t)
	for p := range places(t) {
		want(varKey(p.v) != varKey(f))
	}
	for s.prune(xs, t) {
		t = s.now(t)
	}
	types, _ := s.arguments(f.Type, len(xs))
	body, ok := abstracted(t, xs)
	want(ok)
	s.bind(f, abstraction(types, body))
}

// prune binds the first variable in a term that has a loose bound variable as an argument, other than some, so that it does not depend on such ones. It reports whether there was one.
func (s *State) prune(xs []api.Term, t api.Term) bool {
	for p := range places(t) {
		var kept []int
		for i, a := range p.args {
			if a.Num < p.around || indexOf(xs, bound(a.Num-p.around)) >= 0 {
				kept = append(kept, i)
			}
		}
		if len(kept) < len(p.args) {
			s.keep(p.v, len(p.args), kept)
			return true
		}
	}
	return false
}

// abstracted returns the body of an abstraction of a term over loose bound variables, the outermost one first; false, if it has others.
func abstracted(t api.Term, xs []api.Term) (api.Term, bool) {
	return rename(t, 0, func(n int) (int, bool) {
		i := indexOf(xs, bound(n))
		return len(xs) - 1 - i, i >= 0
	})
}
