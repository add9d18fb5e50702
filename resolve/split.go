package resolve

import (
	"slices"

	"triforium/api"
	"triforium/derive"
	"triforium/term"
	"triforium/types"
)

// Subgoal is a proposition taken apart: its parameters (abstractions' names and types, as Frees, outermost first), assumptions and conclusion (in which the parameters are bound variables).
type Subgoal struct {
	Params []api.Term
	Hyps   []api.Term
	Concl  api.Term
}

// Split takes a subgoal apart; Whole puts it together.
func Split(t api.Term) Subgoal {
	s := split(t)
	for i := range s.Params {
		s.Params[i] = term.Copy(s.Params[i])
	}
	for i := range s.Hyps {
		s.Hyps[i] = term.Copy(s.Hyps[i])
	}
	s.Concl = term.Copy(s.Concl)
	return s
}

func Whole(s Subgoal) api.Term {
	return term.Copy(whole(s))
}

// Terms are never changed here, so what is built of them shares their memory.

// split is Split, but its result shares memory with the term.
func split(t api.Term) Subgoal {
	var s Subgoal
	var around []int // of each assumption the number of parameters ahead of it
	for {
		if abs, ok := quantified(t); ok {
			s.Params = append(s.Params, api.Term{Op: api.Free, Name: abs.Name, Type: abs.Type})
			t = abs.Kids[0]
			continue
		}
		a, b, ok := implies(t)
		if !ok {
			break
		}
		s.Hyps = append(s.Hyps, a)
		around = append(around, len(s.Params))
		t = b
	}
	for i, n := range around {
		if n < len(s.Params) {
			s.Hyps[i] = term.Lift(s.Hyps[i], len(s.Params)-n)
		}
	}
	s.Concl = t
	return s
}

// whole is Whole, but its result shares memory with the subgoal.
func whole(s Subgoal) api.Term {
	return general(s.Params, implication(s.Hyps, s.Concl))
}

// quantified returns the abstraction of a !!.
func quantified(t api.Term) (api.Term, bool) {
	if t.Op != api.App || len(t.Kids) != 2 || t.Kids[0].Op != api.Const || t.Kids[0].Name != "all" {
		return api.Term{}, false
	}
	abs := t.Kids[1]
	return abs, abs.Op == api.Abs && len(abs.Kids) == 1
}

// implies returns both sides of a ==>.
func implies(t api.Term) (a, b api.Term, ok bool) {
	if t.Op != api.App || len(t.Kids) != 2 {
		return api.Term{}, api.Term{}, false
	}
	f := t.Kids[0]
	if f.Op != api.App || len(f.Kids) != 2 || f.Kids[0].Op != api.Const || f.Kids[0].Name != "imp" {
		return api.Term{}, api.Term{}, false
	}
	return f.Kids[1], t.Kids[1], true
}

// strip returns the premises and the conclusion of a proposition.
func strip(t api.Term) ([]api.Term, api.Term) {
	var l []api.Term
	for {
		a, b, ok := implies(t)
		if !ok {
			return l, t
		}
		l = append(l, a)
		t = b
	}
}

// stripped returns the first n premises of a proposition, which has them.
func stripped(t api.Term, n int) []api.Term {
	l := make([]api.Term, n)
	for i := range l {
		l[i], t, _ = implies(t)
	}
	return l
}

// implication returns premises ==> a conclusion.
func implication(l []api.Term, t api.Term) api.Term {
	prop := types.Prop()
	imp := api.Term{Op: api.Const, Name: "imp", Type: types.Fun(prop, types.Fun(prop, prop))}
	for _, a := range slices.Backward(l) {
		f := api.Term{Op: api.App, Kids: []api.Term{imp, a}}
		t = api.Term{Op: api.App, Kids: []api.Term{f, t}}
	}
	return t
}

// general returns the proposition that one, in which parameters are bound variables, holds for all of these.
func general(params []api.Term, t api.Term) api.Term {
	prop := types.Prop()
	for _, p := range slices.Backward(params) {
		all := api.Term{Op: api.Const, Name: "all", Type: types.Fun(types.Fun(p.Type, prop), prop)}
		t = api.Term{Op: api.App, Kids: []api.Term{all, derive.Abstraction(p, t)}}
	}
	return t
}

// abstracted returns a term as a function of the parameters that are bound variables in it.
func abstracted(params []api.Term, t api.Term) api.Term {
	for _, p := range slices.Backward(params) {
		t = derive.Abstraction(p, t)
	}
	return t
}

// shape tells what stands around the conclusion of a proposition, from the outside to the inside: true for a !!, false for a ==>.
func shape(t api.Term) []bool {
	var l []bool
	for {
		if abs, ok := quantified(t); ok {
			l = append(l, true)
			t = abs.Kids[0]
		} else if _, b, ok := implies(t); ok {
			l = append(l, false)
			t = b
		} else {
			return l
		}
	}
}
