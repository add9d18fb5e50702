package pattern

import (
	"triforium/api"
	"triforium/term"
	"triforium/types"
)

// normFuel is how many steps lead to a normal form at most.
const normFuel = 1000

// Match returns the instantiation of a pattern's variables that makes it equal to a term.
func Match(thy api.Theory, p, t api.Term) (api.Inst, api.Errno) {
	sign, e := term.Sign(thy)
	if e != api.OK {
		return api.Inst{}, e
	}
	return MatchIn(sign, p, t)
}

// MatchIn is Match in a theory whose signature is known.
func MatchIn(sign term.Signature, p, t api.Term) (i api.Inst, err api.Errno) {
	m := newMatcher(sign)
	err = caught(func() {
		m.add(p, t)
		i = m.inst()
	})
	return i, err
}

// matcher has the binds of a match.
type matcher struct {
	sign  term.Signature
	types []api.TypeBind
	terms map[key]api.TermBind
	etas  map[key]api.Term // of each of them its Eta
}

func newMatcher(sign term.Signature) *matcher {
	return &matcher{sign: sign, terms: map[key]api.TermBind{}, etas: map[key]api.Term{}}
}

// must leaves with an error, if it is one.
func must(e api.Errno) {
	if e != api.OK {
		panic(e)
	}
}

// add makes a further pattern equal to a term, or leaves with an error.
func (m *matcher) add(p, t api.Term) {
	a, e := m.sign.Check(p)
	must(e)
	b, e := m.sign.Check(t)
	must(e)
	if !Is(p) {
		panic(ErrPattern)
	}
	t, e = term.Norm(t, normFuel)
	if e != api.OK {
		panic(api.ErrFuel)
	}
	want(types.CheckIn(m.sign.Sorts(), a) == api.OK && types.CheckIn(m.sign.Sorts(), b) == api.OK)
	m.matchTypes(a, b)
	m.match(p, t)
}

// matchTypes makes a type equal to another one; both are right.
func (m *matcher) matchTypes(a, b api.Type) {
	if len(types.Variables(a)) == 0 {
		want(types.Equal(a, b))
		return
	}
	want(len(m.types) <= api.MaxItems)
	l, e := types.MatchIn(m.sign.Sorts(), a, b, m.types)
	want(e == api.OK)
	m.types = l
}

// match makes a pattern equal to a beta-normal term of its type.
func (m *matcher) match(p, t api.Term) {
	if p.Op == api.Abs || t.Op == api.Abs {
		if p.Op == api.Abs && t.Op == api.Abs {
			m.matchTypes(p.Type, t.Type)
		}
		m.match(Body(p), Body(t))
		return
	}
	f, xs := spine(p)
	if f.Op == api.Var {
		m.solve(f, xs, t)
		return
	}
	g, ys := spine(t)
	want(f.Op == g.Op && f.Name == g.Name && f.Num == g.Num && len(xs) == len(ys))
	if f.Op != api.Bound {
		m.matchTypes(f.Type, g.Type)
	}
	for i := range xs {
		m.match(xs[i], ys[i])
	}
}

// solve makes a variable with different bound variables as arguments equal to a term.
func (m *matcher) solve(f api.Term, xs []api.Term, t api.Term) {
	body, ok := abstracted(t, xs)
	want(ok)
	l, _ := types.Strip(types.Apply(m.types, f.Type))
	want(len(l) >= len(xs))
	to := abstraction(l[:len(xs)], body)
	eta := term.Eta(to)
	if old, ok := m.etas[varKey(f)]; ok {
		want(term.Equal(old, eta))
		return
	}
	checkSize(to)
	m.terms[varKey(f)] = api.TermBind{Name: f.Name, Index: f.Num, To: to}
	m.etas[varKey(f)] = eta
}

// inst returns all binds, by names and then indices, in new memory.
func (m *matcher) inst() api.Inst {
	var i api.Inst
	known := typeBinds{}
	known.put(m.types)
	for _, b := range ordered(known, typeBound) {
		checkType(b.To)
		b.To = types.Copy(b.To)
		i.Types = append(i.Types, b.TypeBind)
	}
	for _, b := range ordered(m.terms, termBound) {
		for n := range term.Nodes(b.To) {
			checkType(n.Type)
		}
		b.To = term.Copy(b.To)
		i.Terms = append(i.Terms, b)
	}
	return i
}

// checkType leaves, if a type is too large.
func checkType(t api.Type) {
	if tooLarge(types.Size(t)) {
		panic(api.ErrLarge)
	}
}

// Least reports whether an instantiation is an instance of another one, as far as some variables go.
func Least(thy api.Theory, general, special api.Inst, vars []api.Term) (bool, api.Errno) {
	if len(vars) > maxPairs {
		return false, api.ErrCount
	}
	for _, v := range vars {
		if v.Op != api.Var {
			return false, api.ErrArgument
		}
	}
	if len(vars) == 0 {
		return true, api.OK
	}
	sign, e := term.Sign(thy)
	if e != api.OK {
		return false, e
	}
	m := newMatcher(sign)
	a, b := term.NewInstance(general), term.NewInstance(special)
	for _, v := range vars {
		e := caught(func() { m.add(within(a, v), within(b, v)) })
		if e == api.ErrFail {
			return false, api.OK
		}
		if e != api.OK {
			return false, e
		}
	}
	return true, api.OK
}

// within returns what an instance makes of a term, or leaves with the error that this would have, if it is so large that it has one.
func within(x term.Instance, t api.Term) api.Term {
	nodes, depth := x.Size(t)
	if nodes > api.MaxTerm || !x.TypesWithin(t, api.MaxType, api.MaxType) {
		panic(api.ErrCount)
	}
	if depth > api.MaxDepth {
		panic(api.ErrDepth)
	}
	return x.Apply(t)
}
