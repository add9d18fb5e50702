package simp

import (
	"slices"

	"triforium/api"
	"triforium/derive"
	"triforium/hol"
	"triforium/kernel"
	"triforium/term"
	"triforium/types"
)

// Split returns the theorem p == q, where q has, in place of the first conditional of p, the cases of its condition.
func Split(thy api.Theory, p api.Term) (kernel.Theorem, api.Errno) {
	base, book, e := opened(thy)
	if e != api.OK {
		return kernel.Theorem{}, e
	}
	k, e := base.Sign().Check(p)
	if e != api.OK {
		return kernel.Theorem{}, e
	}
	if !types.Equal(k, hol.BoolType()) {
		return kernel.Theorem{}, api.ErrType
	}
	choice, ok := firstChoice(p)
	if !ok {
		return kernel.Theorem{}, api.ErrFail
	}
	return derive.Proved(func() kernel.Theorem { return splitting(derive.New(base, nil), book, p, choice).Theorem })
}

// firstChoice returns the first `If q x y` of a term that has no loose bound variables.
func firstChoice(t api.Term) (api.Term, bool) {
	for n := range term.Nodes(t) {
		if isChoice(n) && term.Closed(n) {
			return n, true
		}
	}
	return api.Term{}, false
}

func isChoice(t api.Term) bool {
	f, l := term.Spine(t)
	return len(l) == 3 && f.Op == api.Const && f.Name == "If"
}

// without returns the body of an abstraction over the places of a closed term in another closed one, within some abstractions.
func without(c, t api.Term, around int) api.Term {
	if term.Equal(c, t) {
		return api.Term{Op: api.Bound, Num: around}
	}
	if t.Op == api.Abs {
		around++
	}
	t.Kids = slices.Clone(t.Kids)
	for i, k := range t.Kids {
		t.Kids[i] = without(c, k, around)
	}
	return t
}

// splitting returns that a formula is equal to the cases of a conditional in it.
func splitting(x *derive.Prover, book *hol.Book, p, choice api.Term) derive.Equation {
	f, l := term.Spine(choice)
	k := f.Type.Args[1].Args[0]
	abs := derive.Abstraction(api.Term{Name: "x", Type: k}, without(choice, p, 0))
	whole := derive.Stating(book.Meta(book.Of("if_split", []api.Type{k}, abs, l[0], l[1], l[2])))
	step := func(a api.Term) derive.Equation {
		redex := derive.App(abs, a)
		return derive.Equation{Theorem: derive.Must(x.Base.Beta(redex)), Left: redex, Right: term.Put(abs.Kids[0], a)}
	}
	both := hol.And(hol.True(), hol.True()).Kids[0].Kids[0]
	implies := func(q, a api.Term) derive.Equation {
		return x.Applied(derive.Same(hol.Implies(q, hol.True()).Kids[0]), step(a))
	}
	cases := x.Applied(x.Applied(derive.Same(both), implies(l[0], l[1])), implies(hol.Not(l[0]), l[2]))
	return derive.Joined(derive.Joined(derive.Turned(step(choice)), whole), cases)
}

// Goal simplifies a subgoal of a state with its assumptions; it returns the state, and whether the subgoal was solved.
func Goal(s Set, state kernel.Theorem, at, depth, fuel int) (kernel.Theorem, bool, api.Errno) {
	g, e := newGoal(s, state, at, depth, fuel)
	if e != api.OK {
		return kernel.Theorem{}, false, e
	}
	solved := false
	t, e := derive.Proved(func() kernel.Theorem {
		eq := g.simplified()
		if shapeOf(eq.Right) == trivial {
			solved = true
			return g.replaced(g.proved(eq), nil)
		}
		if term.Equal(eq.Left, eq.Right) {
			panic(api.ErrFail)
		}
		return g.replaced(kernel.Theorem{}, &eq)
	})
	if e != api.OK {
		return kernel.Theorem{}, false, e
	}
	return t, solved, api.OK
}
