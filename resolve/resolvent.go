package resolve

import (
	"iter"
	"slices"

	"triforium/api"
	"triforium/kernel"
	"triforium/pattern"
	"triforium/term"
	"triforium/types"
	"triforium/unify"
)

// Limits of resolution.
const (
	maxImps  = 200  // ==> in the propositions of the state and the rule
	maxHyps  = 100  // hypotheses of both
	maxNodes = 2000 // nodes of a proposition, and of a type
	maxNest  = 100  // of these within each other

	normFuel = 1000 // steps to a normal form
	wayNodes = 9000 // nodes on the way to it
	wayNest  = 300
)

// attempt is pairs that are to be made equal, and what becomes of the subgoal then: new subgoals, and how they prove it.
type attempt struct {
	pairs []pattern.Pair
	news  []Subgoal // as they were made
	used  int       // the assumption that they lose, -1 for none
	prove proving
}

// attempts returns what is tried for a kind of resolution, in order.
func (m *meeting) attempts(kind int) []attempt {
	r := m.lifted
	pair := func(a, b api.Term) pattern.Pair {
		return pattern.Pair{A: abstracted(m.sub.Params, a), B: abstracted(m.sub.Params, b)}
	}
	subgoals := func(hyps, l []api.Term) []Subgoal {
		var out []Subgoal
		for _, a := range l {
			out = append(out, Subgoal{m.sub.Params, hyps, a})
		}
		return out
	}
	if kind == Rule {
		a := attempt{[]pattern.Pair{pair(r.concl, m.sub.Concl)}, subgoals(m.sub.Hyps, r.premises), -1, (*derivation).byRule}
		return []attempt{a}
	}
	if len(r.premises) == 0 {
		return nil
	}
	var out []attempt
	for j, h := range m.sub.Hyps {
		hyps := slices.Delete(slices.Clone(m.sub.Hyps), j, j+1)
		a := attempt{news: subgoals(hyps, r.premises[1:]), used: j}
		if kind == Erule {
			a.pairs, a.prove = []pattern.Pair{pair(r.concl, m.sub.Concl), pair(r.premises[0], h)}, (*derivation).byElimination
		} else {
			last := Subgoal{m.sub.Params, slices.Concat(hyps, []api.Term{r.concl}), m.sub.Concl}
			a.pairs, a.prove = []pattern.Pair{pair(r.premises[0], h)}, (*derivation).byDestruction
			a.news = append(a.news, last)
		}
		out = append(out, a)
	}
	return out
}

// assumptions returns what is tried to solve the subgoal by an assumption.
func (m *meeting) assumptions() []attempt {
	var out []attempt
	for j, h := range m.sub.Hyps {
		pair := pattern.Pair{A: abstracted(m.sub.Params, h), B: abstracted(m.sub.Params, m.sub.Concl)}
		out = append(out, attempt{[]pattern.Pair{pair}, nil, j, (*derivation).byAssumption})
	}
	return out
}

// resolvents yields the states that come from attempts, in order.
func (m *meeting) resolvents(l []attempt, depth int) iter.Seq[kernel.Theorem] {
	if m.beyond() {
		return none
	}
	return func(yield func(kernel.Theorem) bool) {
		for _, a := range l {
			for t := range m.solutions(a, depth) {
				if !yield(t) {
					return
				}
			}
		}
	}
}

// solutions yields the resolvents that come from the unifiers of an attempt.
func (m *meeting) solutions(a attempt, depth int) iter.Seq[kernel.Theorem] {
	return func(yield func(kernel.Theorem) bool) {
		n := 0
	next:
		for u := range unify.AllIn(m.base.Sign(), a.pairs, depth) {
			if n++; n > maxUnifiers {
				return
			}
			if len(u.Flex) > 0 {
				continue next
			}
			t, e := m.resolvent(a, u.Inst)
			if e != api.OK {
				continue next
			}
			if !yield(t) {
				return
			}
		}
	}
}

// beyond reports whether the state and the rule are beyond the limits of resolution, whatever the unifier is.
func (m *meeting) beyond() bool {
	if m.tooHigh() || imps(m.state.prop)+imps(m.rule.prop) > maxImps || len(m.state.hyps)+len(m.rule.hyps) > maxHyps {
		return true
	}
	if len(m.state.vars)+len(m.rule.vars) > maxVars || len(m.state.types)+len(m.rule.types) > maxVars {
		return true
	}
	for _, t := range slices.Concat(m.state.all(), m.rule.all()) {
		if !small(t) {
			return true
		}
	}
	return false
}

// imps counts the ==> of a term.
func imps(t api.Term) int {
	n := 0
	for k := range term.Nodes(t) {
		if k.Op == api.Const && k.Name == "imp" {
			n++
		}
	}
	return n
}

// small reports whether a term, and all types in it, are within the limits of resolution.
func small(t api.Term) bool {
	if nodes, depth := term.Size(t); nodes > maxNodes || depth > maxNest {
		return false
	}
	return smallTypes(&t)
}

func smallTypes(t *api.Term) bool {
	if nodes, depth := types.Size(t.Type); nodes > maxNodes || depth > maxNest {
		return false
	}
	for i := range t.Kids {
		if !smallTypes(&t.Kids[i]) {
			return false
		}
	}
	return true
}

// behind is what stands behind an instantiation.
type behind struct {
	inst      api.Inst
	stateHyps []api.Term
	stateProp api.Term
	ruleHyps  []api.Term
	ruleProp  api.Term   // of the lifted rule, without parameters and assumptions
	assumed   []api.Term // the assumptions of the subgoal
	resolvent api.Term
}

// resolvent returns the resolvent of an attempt by an instantiation; api.ErrFail, if there is none.
func (m *meeting) resolvent(a attempt, i api.Inst) (kernel.Theorem, api.Errno) {
	b, ok := m.behind(a, i)
	if !ok || !m.fits(b) {
		return kernel.Theorem{}, api.ErrFail
	}
	state, ok := normal(b.stateProp)
	if !ok {
		return kernel.Theorem{}, api.ErrFail
	}
	if m.rule.theorem.Is() {
		if _, ok := normal(b.ruleProp); !ok {
			return kernel.Theorem{}, api.ErrFail
		}
	}
	prop, ok := normal(b.resolvent)
	if !ok || term.Agree(slices.Concat(b.stateHyps, b.ruleHyps, []api.Term{prop})) != api.OK {
		return kernel.Theorem{}, api.ErrFail
	}
	return m.derive(a, i, state, prop)
}

// normal returns the normal form of a term, if it is within the limits of resolution, and reached within them.
func normal(t api.Term) (api.Term, bool) {
	n, e := term.NormWithin(t, normFuel, wayNodes, wayNest)
	return n, e == api.OK && small(n)
}

// behind returns what stands behind an instantiation; false, if something is beyond the limits of resolution.
func (m *meeting) behind(a attempt, i api.Inst) (b behind, ok bool) {
	b.inst = i
	x := term.NewInstance(i)
	one := func(t api.Term) api.Term {
		if nodes, depth := x.Size(t); nodes > maxNodes || depth > maxNest || !x.TypesWithin(t, maxNodes, maxNest) {
			ok = false
			return api.Term{}
		}
		now := x.Apply(t)
		ok = ok && smallTypes(&now)
		return now
	}
	all := func(l []api.Term) []api.Term {
		var out []api.Term
		for _, t := range l {
			out = append(out, one(t))
		}
		return out
	}
	ok = true
	b.stateHyps, b.stateProp = all(m.state.hyps), one(m.state.prop)
	if m.rule.theorem.Is() {
		r := m.lifted
		b.ruleHyps, b.ruleProp, b.assumed = all(r.hyps), one(r.prop()), all(m.sub.Hyps)
	}
	b.resolvent = one(m.prop(a.news))
	return b, ok
}

// prop returns the proposition of the state with new subgoals, which are made flat, in the place of the subgoal.
func (m *meeting) prop(news []Subgoal) api.Term {
	l := slices.Clone(m.goals[:m.at])
	for _, s := range news {
		l = append(l, flat(s))
	}
	return implication(slices.Concat(l, m.goals[m.at+1:]), m.concl)
}

// flat returns a new subgoal whose parameters stand ahead of its assumptions, also those of its conclusion.
func flat(s Subgoal) api.Term {
	return whole(split(whole(s)))
}

// fits reports whether the instantiation, and what stands behind it, are right.
func (m *meeting) fits(b behind) bool {
	if term.Agree(slices.Concat(b.stateHyps, []api.Term{b.stateProp})) != api.OK {
		return false
	}
	all, vars := slices.Clone(m.state.types), slices.Clone(m.state.vars)
	if m.rule.theorem.Is() {
		if term.Agree(slices.Concat(b.ruleHyps, []api.Term{b.ruleProp}, b.assumed)) != api.OK {
			return false
		}
		r := m.lifted
		all, vars = slices.Concat(all, r.types), slices.Concat(vars, r.vars)
	}
	return m.typesFit(b.inst, all) && m.termsFit(b.inst, vars)
}

// typesFit reports whether type variables are bound to types of their sorts.
func (m *meeting) typesFit(i api.Inst, l []api.Type) bool {
	sorts := m.base.Sign().Sorts()
	for _, b := range i.Types {
		for _, v := range l {
			if v.Name == b.Name && v.Index == b.Index && (types.CheckIn(sorts, b.To) != api.OK || !types.HasSortIn(sorts, b.To, v.Sort)) {
				return false
			}
		}
	}
	return true
}

// termsFit reports whether variables are bound to terms of their types.
func (m *meeting) termsFit(i api.Inst, l []api.Term) bool {
	x := types.NewInstance(i.Types)
	for _, b := range i.Terms {
		for _, v := range l {
			if v.Name != b.Name || v.Num != b.Index {
				continue
			}
			t, e := m.base.Sign().Check(b.To)
			if e != api.OK || !x.Gives(v.Type, t) {
				return false
			}
		}
	}
	return true
}
