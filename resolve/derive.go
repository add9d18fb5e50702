package resolve

import (
	"slices"

	"triforium/api"
	"triforium/derive"
	"triforium/kernel"
	"triforium/term"
	"triforium/types"
)

// raising returns the instantiation that adds a number to the indices of all variables of a side.
func raising(s side, by int) api.Inst {
	var i api.Inst
	if by == 0 {
		return i
	}
	for _, v := range s.types {
		i.Types = append(i.Types, api.TypeBind{Name: v.Name, Index: v.Index, To: types.Raise(v, by)})
	}
	for _, v := range s.vars {
		i.Terms = append(i.Terms, api.TermBind{Name: v.Name, Index: v.Num, To: term.Raise(v, by)})
	}
	return i
}

// restricted returns the binds of the variables of a side.
func restricted(i api.Inst, s side) api.Inst {
	var out api.Inst
	for _, b := range i.Types {
		if slices.ContainsFunc(s.types, func(v api.Type) bool { return v.Name == b.Name && v.Index == b.Index }) {
			out.Types = append(out.Types, b)
		}
	}
	for _, b := range i.Terms {
		if slices.ContainsFunc(s.vars, func(v api.Term) bool { return v.Name == b.Name && v.Num == b.Index }) {
			out.Terms = append(out.Terms, b)
		}
	}
	return out
}

// forRule returns the instantiation that raises and lifts the rule, with Frees for the parameters, and does then what another one does. It has no binds that change nothing.
func (m *meeting) forRule(i api.Inst, params []api.Term) api.Inst {
	var out api.Inst
	known := types.NewInstance(i.Types)
	for _, v := range m.rule.types {
		to := known.Apply(types.Raise(v, m.by))
		if !types.Equal(to, v) {
			out.Types = append(out.Types, api.TypeBind{Name: v.Name, Index: v.Index, To: to})
		}
	}
	l, x := lifter{m.sub.Params}, term.NewInstance(i)
	now := types.NewInstance(out.Types)
	for _, v := range m.rule.vars {
		to := term.Apps(x.Apply(l.variable(term.Raise(v, m.by))), params)
		to, e := term.Norm(to, normFuel)
		if e != api.OK {
			panic(e)
		}
		if to.Op != api.Var || to.Name != v.Name || to.Num != v.Num || !now.Gives(v.Type, to.Type) {
			out.Terms = append(out.Terms, api.TermBind{Name: v.Name, Index: v.Num, To: to})
		}
	}
	return out
}

// open takes a proposition apart along its shape: with new Frees for the variables, or those that are given.
func open(p *derive.Prover, shape []bool, t api.Term, given []api.Term) (params, hyps []api.Term, concl api.Term) {
	for _, isAll := range shape {
		if !isAll {
			a, b, _ := implies(t)
			hyps = append(hyps, a)
			t = b
			continue
		}
		abs, _ := quantified(t)
		x := api.Term{}
		if len(params) < len(given) {
			x = given[len(params)]
		} else {
			x = p.Fresh(abs.Name, abs.Type)
		}
		params = append(params, x)
		t = term.Put(abs.Kids[0], x)
	}
	return params, hyps, t
}

// closing puts together again what open has taken apart, around the conclusion that a theorem states.
func closing(shape []bool, params, hyps []api.Term, t kernel.Theorem) kernel.Theorem {
	for _, isAll := range slices.Backward(shape) {
		if isAll {
			last := len(params) - 1
			t = derive.Generally(t, params[last])
			params = params[:last]
		} else {
			last := len(hyps) - 1
			t = derive.Discharge(t, hyps[last])
			hyps = hyps[:last]
		}
	}
	return t
}

// proving proves the conclusion of the subgoal.
type proving func(d *derivation) kernel.Theorem

// derivation is where the proof of a resolvent stands: all terms are behind the instantiation, and normal.
type derivation struct {
	*derive.Prover
	shapes [][]bool         // of the premises of the rule
	params []api.Term       // Frees for the parameters of the subgoal
	hyps   []api.Term       // its assumptions
	given  []kernel.Theorem // these as theorems
	concl  api.Term
	rule   kernel.Theorem // what the rule states, with the Frees
	news   []api.Term     // the new subgoals
	used   int            // the assumption that these do not have
}

// derive returns the theorem that a resolvent is: the normal forms of the state's proposition, and of its own one, behind the instantiation are given.
func (m *meeting) derive(a attempt, i api.Inst, state, prop api.Term) (kernel.Theorem, api.Errno) {
	return derive.Proved(func() kernel.Theorem {
		p := derive.New(m.base, slices.Concat(m.state.all(), m.rule.all()))
		s := derive.Instance(restricted(i, m.state), p.Moved(m.state.theorem))
		s = derive.Changed(p.Normal(s.Prop()), s)
		d := &derivation{Prover: p, used: a.used}
		goal := stripped(state, m.at+1)[m.at]
		var frees []api.Term
		for _, x := range m.sub.Params {
			frees = append(frees, p.Fresh(x.Name, types.Apply(i.Types, x.Type)))
		}
		d.params, d.hyps, d.concl = open(p, m.subShape, goal, frees)
		d.news = stripped(prop, m.at+len(a.news))[m.at:]
		if len(a.news) > 0 || a.used >= 0 {
			for _, h := range d.hyps {
				d.given = append(d.given, p.Assume(h))
			}
		}
		by := kernel.Theorem{}
		if m.rule.theorem.Is() {
			by = m.follows(d, a, i)
		} else {
			by = closing(m.subShape, d.params, d.hyps, a.prove(d))
		}
		return replaced(p, s, m.at, by, len(d.news))
	})
}

// follows returns that the subgoal follows from the new ones, by the rule. This is proved of any rule that states the same: the hypotheses of the rule itself must stay, also where one of them is an assumption of the proof.
func (m *meeting) follows(d *derivation, a attempt, i api.Inst) kernel.Theorem {
	r := derive.Instance(m.forRule(i, d.params), d.Moved(m.rule.theorem))
	r = derive.Changed(d.Normal(r.Prop()), r)
	all := derive.Generally(r, d.params...)
	for _, p := range m.lifted.premises {
		d.shapes = append(d.shapes, shape(p))
	}
	prop := all.Prop()
	d.rule = derive.Special(d.Assume(prop), d.params...)
	t := closing(m.subShape, d.params, d.hyps, a.prove(d))
	t = derive.Discharge(derive.Discharge(t, d.news...), prop)
	return derive.Elim(t, all)
}

// premise returns the premise of a rule with a shape, which is what a new subgoal says of the parameters and the assumptions.
func (d *derivation) premise(shape []bool, premise, subgoal api.Term) kernel.Theorem {
	for len(shape) > 0 && !shape[len(shape)-1] {
		shape = shape[:len(shape)-1] // what stands behind the innermost !! is the same in both
	}
	params, hyps, _ := open(d.Prover, shape, premise, nil)
	t := derive.Special(derive.Special(d.Assume(subgoal), d.params...), params...)
	t = derive.Elim(t, d.kept()...)
	for _, h := range hyps {
		t = derive.Elim(t, d.Assume(h))
	}
	return closing(shape, params, hyps, t)
}

// kept returns the assumptions that the new subgoals have.
func (d *derivation) kept() []kernel.Theorem {
	if d.used < 0 {
		return d.given
	}
	return slices.Delete(slices.Clone(d.given), d.used, d.used+1)
}

// apply returns the conclusion of the rule, some premises of which were proved, and the others of which are the first new subgoals.
func (d *derivation) apply(first ...kernel.Theorem) kernel.Theorem {
	t := derive.Elim(d.rule, first...)
	for i, s := range d.shapes[len(first):] {
		premise, _, _ := implies(t.Prop())
		t = derive.Elim(t, d.premise(s, premise, d.news[i]))
	}
	return t
}

// fitted returns a theorem that states a proposition, which is its own one but for eta.
func (d *derivation) fitted(t kernel.Theorem, prop api.Term) kernel.Theorem {
	return derive.Changed(d.EtaEqual(t.Prop(), prop), t)
}

func (d *derivation) byRule() kernel.Theorem {
	return d.fitted(d.apply(), d.concl)
}

// solvedFirst returns the first premise of the rule, which the assumption that is used states.
func (d *derivation) solvedFirst() kernel.Theorem {
	premise, _, _ := implies(d.rule.Prop())
	return d.fitted(d.given[d.used], premise)
}

func (d *derivation) byElimination() kernel.Theorem {
	return d.fitted(d.apply(d.solvedFirst()), d.concl)
}

func (d *derivation) byDestruction() kernel.Theorem {
	c := d.apply(d.solvedFirst())
	t := derive.Special(d.Assume(d.news[len(d.news)-1]), d.params...)
	return derive.Elim(derive.Elim(t, d.kept()...), c)
}

func (d *derivation) byAssumption() kernel.Theorem {
	return d.fitted(d.given[d.used], d.concl)
}

// Replace returns a state in which new subgoals stand in the place of one: a theorem states that this follows from them, which are its first n premises. The result has the hypotheses of both.
func Replace(state kernel.Theorem, at int, by kernel.Theorem, n int) (kernel.Theorem, api.Errno) {
	if !by.Is() || !state.Is() {
		return kernel.Theorem{}, kernel.ErrNone
	}
	base, e := joint(by, state)
	if e != api.OK {
		return kernel.Theorem{}, e
	}
	goals, _ := strip(state.Prop())
	premises, _ := strip(by.Prop())
	if at < 0 || at >= len(goals) {
		return kernel.Theorem{}, ErrSubgoal
	}
	if n < 0 || n > len(premises) {
		return kernel.Theorem{}, api.ErrRange
	}
	return derive.Proved(func() kernel.Theorem {
		p := derive.New(base, nil)
		return replaced(p, p.Moved(state), at, p.Moved(by), n)
	})
}

// replaced is Replace. It is proved of any theorems that state the same: so their hypotheses stay, and the proof of the state stands but within few nodes, however many steps there are.
func replaced(p *derive.Prover, state kernel.Theorem, at int, by kernel.Theorem, n int) kernel.Theorem {
	stated, known := state.Prop(), by.Prop()
	ahead, news := stripped(stated, at), stripped(known, n)
	goal := p.Assume(known)
	for _, a := range news {
		goal = derive.Elim(goal, p.Assume(a))
	}
	t := p.Assume(stated)
	for _, a := range ahead {
		t = derive.Elim(t, p.Assume(a))
	}
	t = derive.Discharge(derive.Elim(t, goal), slices.Concat(ahead, news)...)
	return derive.Elim(derive.Discharge(t, known, stated), by, state)
}
