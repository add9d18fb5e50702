package resolve

import (
	"slices"

	"triforium/api"
	"triforium/kernel"
	"triforium/term"
	"triforium/types"
)

// side is a theorem with what it states: a rule, or a state.
type side struct {
	theorem kernel.Theorem
	hyps    []api.Term
	prop    api.Term
	vars    []api.Term // different ones
	types   []api.Type // TVars, different ones
}

func newSide(t kernel.Theorem) side {
	s := side{theorem: t, hyps: t.Hyps(), prop: t.Prop()}
	all := combined(s.all())
	s.vars = term.Vars(all)
	for _, v := range term.TypeVariables(all) {
		if v.Op == api.TVar {
			s.types = append(s.types, v)
		}
	}
	return s
}

// all returns the hypotheses and the proposition.
func (s side) all() []api.Term {
	return slices.Concat(s.hyps, []api.Term{s.prop})
}

// combined returns something that has some terms as parts, to ask about all of them.
func combined(l []api.Term) api.Term {
	return api.Term{Kids: l}
}

// hasMany reports whether there are more variables than an instantiation binds.
func (s side) hasMany() bool {
	return len(s.vars) > maxVars || len(s.types) > maxVars
}

// raise returns the side with greater indices; its theorem stays.
func (s side) raise(by int) side {
	if by == 0 {
		return s
	}
	up := func(l []api.Term) []api.Term {
		out := make([]api.Term, len(l))
		for i, t := range l {
			out[i] = term.Raise(t, by)
		}
		return out
	}
	s.hyps, s.prop, s.vars = up(s.hyps), term.Raise(s.prop, by), up(s.vars)
	s.types = slices.Clone(s.types)
	for i := range s.types {
		s.types[i].Index += by
	}
	return s
}

// meeting is how a rule meets a state, perhaps at a subgoal; or a state alone.
type meeting struct {
	base  kernel.Base // the theory of the result
	rule  side
	by    int // by how much the indices of the rule are raised above the state
	state side

	at       int
	goals    []api.Term // the subgoals
	concl    api.Term   // what stands behind them
	sub      Subgoal    // the subgoal at
	subShape []bool
	lifted   liftedRule
}

// meet returns how a rule meets a state: the errors of two theorems, as they are given.
func meet(rule, state kernel.Theorem) (meeting, api.Errno) {
	if !rule.Is() || !state.Is() {
		return meeting{}, kernel.ErrNone
	}
	base, e := joint(rule, state)
	if e != api.OK {
		return meeting{}, e
	}
	m := meeting{base: base, rule: newSide(rule), state: newSide(state)}
	// Not of the raised rule: its variables are others than those of the state, so it would agree where the two theorems do not.
	if e := term.Agree(slices.Concat(m.rule.all(), m.state.all())); e != api.OK {
		return meeting{}, e
	}
	m.by = term.MaxIndex(combined(m.state.all())) + 1
	return m, api.OK
}

// joint returns the greater one of the theories of two theorems.
func joint(a, b kernel.Theorem) (kernel.Base, api.Errno) {
	if a.Base().Within(b.Base()) {
		return b.Base(), api.OK
	}
	if b.Base().Within(a.Base()) {
		return a.Base(), api.OK
	}
	return kernel.Base{}, api.ErrTheory
}

// enter goes to a subgoal.
func (m *meeting) enter(at int) api.Errno {
	m.goals, m.concl = strip(m.state.prop)
	if at < 0 || at >= len(m.goals) {
		return ErrSubgoal
	}
	m.at = at
	m.sub, m.subShape = split(m.goals[at]), shape(m.goals[at])
	return api.OK
}

// canLift reports whether the rule can be lifted over the parameters of the subgoal.
func (m *meeting) canLift() bool {
	return len(m.sub.Params) == 0 || len(term.Vars(combined(m.rule.hyps))) == 0
}

// tooHigh reports whether the rule cannot be raised, as an index would be too great.
func (m *meeting) tooHigh() bool {
	return m.by > 0 && term.MaxIndex(combined(m.rule.all()))+m.by > maxIndex
}

// lifter replaces each variable by one that is applied to the parameters.
type lifter struct {
	params []api.Term
}

// variable returns a variable with the type of functions of the parameters.
func (l lifter) variable(v api.Term) api.Term {
	for _, p := range slices.Backward(l.params) {
		v.Type = types.Fun(p.Type, v.Type)
	}
	return v
}

// lift returns a term, within some abstractions, with bound variables for the parameters.
func (l lifter) lift(t api.Term, around int) api.Term {
	if t.Op == api.Var {
		n := len(l.params)
		t = l.variable(t)
		for i := range n {
			t = api.Term{Op: api.App, Kids: []api.Term{t, {Op: api.Bound, Num: around + n - 1 - i}}}
		}
		return t
	}
	if t.Op == api.Abs {
		around++
	}
	t.Kids = slices.Clone(t.Kids)
	for i := range t.Kids {
		t.Kids[i] = l.lift(t.Kids[i], around)
	}
	return t
}

// liftedRule is the rule raised and lifted: with bound variables for the parameters.
type liftedRule struct {
	hyps     []api.Term
	vars     []api.Term // with their types of functions
	types    []api.Type
	premises []api.Term
	concl    api.Term
}

// liftRule lifts the rule over the parameters of the subgoal.
func (m *meeting) liftRule() liftedRule {
	s := m.rule.raise(m.by)
	l := lifter{m.sub.Params}
	r := liftedRule{hyps: s.hyps, types: s.types}
	for _, v := range s.vars {
		r.vars = append(r.vars, l.variable(v))
	}
	premises, concl := strip(s.prop)
	if len(l.params) == 0 {
		r.premises, r.concl = premises, concl
		return r
	}
	for _, a := range premises {
		r.premises = append(r.premises, l.lift(a, 0))
	}
	r.concl = l.lift(concl, 0)
	return r
}

// prop returns the proposition of the lifted rule, without parameters and assumptions.
func (r liftedRule) prop() api.Term {
	return implication(r.premises, r.concl)
}
