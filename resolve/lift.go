package resolve

import (
	"slices"

	"triforium/api"
	"triforium/derive"
	"triforium/kernel"
	"triforium/term"
	"triforium/types"
)

// liftTheorem returns the lifted rule as a theorem: the kernel's error, if it does not let it be.
func (m *meeting) liftTheorem() (kernel.Theorem, api.Errno) {
	over := func(t api.Term) api.Term { return whole(Subgoal{m.sub.Params, m.sub.Hyps, t}) }
	var premises []api.Term
	for _, a := range m.lifted.premises {
		premises = append(premises, over(a))
	}
	prop := implication(premises, over(m.lifted.concl))
	if e := m.rightResult(prop); e != api.OK {
		return kernel.Theorem{}, e
	}
	return derive.Proved(func() kernel.Theorem { return m.proveLifted(premises) })
}

// rightResult returns the error that the kernel has for a result.
func (m *meeting) rightResult(prop api.Term) api.Errno {
	if nodes, depth := term.Size(prop); nodes > api.MaxTerm || depth > api.MaxDepth {
		return api.ErrLarge
	}
	for n := range term.Nodes(prop) {
		if tooLarge(n.Type) {
			return api.ErrLarge
		}
	}
	return term.Agree(slices.Concat(m.lifted.hyps, []api.Term{prop}))
}

// proveLifted proves the lifted rule. If its own hypotheses would be in the way, it is proved of any rule that states the same.
func (m *meeting) proveLifted(premises []api.Term) kernel.Theorem {
	p := derive.New(m.base, slices.Concat(m.state.all(), m.rule.all()))
	rule := p.Moved(m.rule.theorem)
	if len(m.sub.Params) == 0 && len(m.sub.Hyps) == 0 {
		return derive.Instance(raising(m.rule, m.by), rule)
	}
	order := slices.Concat(slices.Repeat([]bool{true}, len(m.sub.Params)), slices.Repeat([]bool{false}, len(m.sub.Hyps)))
	params, hyps, _ := open(p, order, whole(m.sub), nil)
	rule = derive.Instance(m.forRule(api.Inst{}, params), rule)
	d := &derivation{Prover: p, params: params, hyps: hyps, used: -1}
	for _, h := range hyps {
		d.given = append(d.given, p.Assume(h))
	}
	prove := func(t kernel.Theorem) kernel.Theorem {
		for _, a := range premises {
			t = derive.Elim(t, derive.Elim(derive.Special(p.Assume(a), params...), d.given...))
		}
		return derive.Discharge(closing(order, params, hyps, t), premises...)
	}
	if !m.inTheWay(m.lifted.hyps, slices.Concat(premises, hyps)) {
		return prove(rule)
	}
	all := derive.Generally(rule, params...)
	return derive.Elim(derive.Discharge(prove(derive.Special(p.Assume(all.Prop()), params...)), all.Prop()), all)
}

// inTheWay reports whether hypotheses would be lost, as one of them is assumed in a proof, or are too many to be there with all that is assumed.
func (m *meeting) inTheWay(hyps, assumed []api.Term) bool {
	if len(hyps)+len(assumed) > api.MaxHyps {
		return true
	}
	for _, h := range hyps {
		if slices.ContainsFunc(assumed, func(a api.Term) bool { return term.Equal(a, h) }) {
			return true
		}
	}
	return false
}

// tooLarge reports whether a type is one that types.Check does not let be.
func tooLarge(t api.Type) bool {
	nodes, depth := types.Size(t)
	return nodes > api.MaxType || depth > api.MaxDepth
}
