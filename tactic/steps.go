package tactic

import (
	"slices"

	"triforium/api"
	"triforium/derive"
	"triforium/kernel"
	"triforium/term"
	"triforium/types"
)

// forward returns B ==> A of an equation A == B; backward A ==> B of it. They have the hypotheses of the equation, also if one of these is A, or B.
func forward(eq kernel.Theorem, a, b api.Term) kernel.Theorem {
	return converse(eq, b, func(eq kernel.Theorem) kernel.Theorem { return derive.Must(kernel.Symmetric(eq)) })
}

func backward(eq kernel.Theorem, a, b api.Term) kernel.Theorem {
	return converse(eq, a, func(eq kernel.Theorem) kernel.Theorem { return eq })
}

// converse returns that a side of an equation implies the other one. This is proved of any equation that states the same.
func converse(eq kernel.Theorem, side api.Term, turn func(kernel.Theorem) kernel.Theorem) kernel.Theorem {
	prop, base := eq.Prop(), eq.Base()
	t := derive.Must(kernel.EqElim(turn(derive.Must(base.Assume(prop))), derive.Must(base.Assume(side))))
	t = derive.Must(kernel.ImpIntro(prop, derive.Must(kernel.ImpIntro(side, t))))
	return derive.Must(kernel.ImpElim(t, eq))
}

// unfolding returns B ==> A, where B is A with the right side of an equation in the place of its left side, which is a Const or a Free.
func (r *runner) unfolding(rule kernel.Theorem, a api.Term) kernel.Theorem {
	c, to, ok := term.IsEq(rule.Prop())
	if !ok || c.Op != api.Const && c.Op != api.Free {
		panic(api.ErrFail)
	}
	body, found := without(c, a, 0)
	if !found {
		panic(api.ErrFail)
	}
	rule = derive.Must(r.base.Transfer(rule))
	// (\x. body) c == (\x. body) r, and both sides are what they become
	f := api.Term{Op: api.Abs, Name: "x", Type: c.Type, Kids: []api.Term{body}}
	eq := derive.Must(kernel.Combination(derive.Must(r.base.Reflexive(f)), rule))
	before := derive.Must(kernel.Symmetric(derive.Must(r.base.Beta(derive.App(f, c)))))
	behind := derive.Must(r.base.Beta(derive.App(f, to)))
	eq = derive.Must(kernel.Transitive(before, derive.Must(kernel.Transitive(eq, behind))))
	return forward(eq, a, term.Put(body, to))
}

// without returns the body of an abstraction over the places of a Const or a Free in a closed term within some abstractions, and whether there are some.
func without(c, t api.Term, around int) (api.Term, bool) {
	if t.Op == c.Op && t.Name == c.Name && types.Equal(t.Type, c.Type) {
		return api.Term{Op: api.Bound, Num: around}, true
	}
	if t.Op == api.Abs {
		around++
	}
	found := false
	t.Kids = slices.Clone(t.Kids)
	for i, k := range t.Kids {
		now, ok := without(c, k, around)
		t.Kids[i] = now
		found = found || ok
	}
	return t, found
}

// rotated returns a state in which a subgoal stands behind others, the last one of which has an index.
func rotated(state kernel.Theorem, at, last int) (kernel.Theorem, api.Errno) {
	if at == last {
		return state, api.OK
	}
	return derive.Proved(func() kernel.Theorem {
		prop, base := state.Prop(), state.Base()
		goals, _ := term.Strip(prop)
		goals = goals[:last+1]
		// of any state that states the same: so hypotheses stay that are subgoals, too
		t := derive.Must(base.Assume(prop))
		for _, a := range goals {
			t = derive.Must(kernel.ImpElim(t, derive.Must(base.Assume(a))))
		}
		order := slices.Concat(goals[:at], goals[at+1:], goals[at:at+1])
		for _, a := range slices.Backward(order) {
			t = derive.Must(kernel.ImpIntro(a, t))
		}
		return derive.Must(kernel.ImpElim(derive.Must(kernel.ImpIntro(prop, t)), state))
	})
}
