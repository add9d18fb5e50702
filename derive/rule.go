package derive

import (
	"triforium/api"
	"triforium/kernel"
	"triforium/pattern"
	"triforium/term"
	"triforium/types"
)

// Rule is a theorem with its schematic variables.
type Rule struct {
	Theorem kernel.Theorem
	All     []api.Term // its hypotheses and its proposition
	Vars    []api.Term // different ones
	Types   []api.Type // TVars, different ones
}

// NewRule returns a theorem with its variables.
func NewRule(t kernel.Theorem) Rule {
	r := Rule{Theorem: t, All: append(t.Hyps(), t.Prop())}
	whole := api.Term{Kids: r.All}
	r.Vars = term.Vars(whole)
	for _, v := range term.TypeVariables(whole) {
		if v.Op == api.TVar {
			r.Types = append(r.Types, v)
		}
	}
	return r
}

// Raised returns the instance of the rule by an instantiation of its variables, raised by a number.
func (r Rule) Raised(by int, i api.Inst) kernel.Theorem {
	var out api.Inst
	known, x := types.NewInstance(i.Types), term.NewInstance(i)
	for _, v := range r.Types {
		if to := known.Apply(types.Raise(v, by)); !types.Equal(to, v) {
			out.Types = append(out.Types, api.TypeBind{Name: v.Name, Index: v.Index, To: to})
		}
	}
	now := types.NewInstance(out.Types)
	for _, v := range r.Vars {
		to := x.Apply(term.Raise(v, by))
		if to.Op != api.Var || to.Name != v.Name || to.Num != v.Num || !now.Gives(v.Type, to.Type) {
			out.Terms = append(out.Terms, api.TermBind{Name: v.Name, Index: v.Num, To: to})
		}
	}
	return Instance(out, r.Theorem)
}

// Alike returns that two terms are equal whose beta-normal forms are so but for eta.
func (p *Prover) Alike(a, b api.Term) Equation {
	if term.Equal(a, b) {
		return Same(a)
	}
	x, y := p.Normal(a), p.Normal(b)
	e := Joined(x, p.EtaEqual(x.Right, y.Right))
	return Joined(e, Turned(y))
}

// normFuel is how many steps lead to a normal form at most.
const normFuel = 1000

// matching finds what a rule has for its variables.
type matching struct {
	sign term.Signature
	inst api.Inst
}

// match makes a part of a rule equal to what it states here, if it is a pattern behind what is known; it reports whether it was one.
func (m *matching) match(part, t api.Term) bool {
	part = term.Apply(m.inst, part)
	if !isOpen(&part) {
		return true // whether it fits is seen when it is used
	}
	if HasRedex(&part) {
		now, e := term.Norm(part, normFuel)
		if e != api.OK {
			return false
		}
		part = now
	}
	if term.Equal(part, t) {
		return true
	}
	i, e := pattern.MatchIn(m.sign, part, t)
	if e != api.OK {
		return false
	}
	i, e = pattern.Compose(m.inst, i)
	m.inst = i
	return e == api.OK
}

// isOpen reports whether a term has schematic variables.
func isOpen(t *api.Term) bool {
	if t.Op == api.Var || isOpenType(&t.Type) {
		return true
	}
	for i := range t.Kids {
		if isOpen(&t.Kids[i]) {
			return true
		}
	}
	return false
}

func isOpenType(t *api.Type) bool {
	if t.Op == api.TVar {
		return true
	}
	for i := range t.Args {
		if isOpenType(&t.Args[i]) {
			return true
		}
	}
	return false
}

// further matches the parts that are not done yet; it reports whether some are now, and others are not.
func (m *matching) further(parts, stated []api.Term, done []bool) bool {
	some, all := false, true
	for i := range parts {
		if done[i] {
			continue
		}
		done[i] = m.match(parts[i], stated[i])
		some, all = some || done[i], all && done[i]
	}
	return some && !all
}

// Use returns what a rule says of some theorems, which are its first premises, in beta-normal form: of its variables those are known that are bound, the others are what the theorems tell, and the goal, if there is one. None of these has schematic variables of the rule.
func (p *Prover) Use(rule kernel.Theorem, known api.Inst, goal *api.Term, from ...kernel.Theorem) kernel.Theorem {
	parts, concl := term.Strip(rule.Prop())
	var stated []api.Term
	for _, t := range from {
		stated = append(stated, t.Prop())
	}
	parts = parts[:len(from)]
	if goal != nil {
		parts, stated = append([]api.Term{concl}, parts...), append([]api.Term{*goal}, stated...)
	}
	m := &matching{p.Base.Sign(), known}
	for done := make([]bool, len(parts)); m.further(parts, stated, done); {
	}
	return Elim(p.Normalized(Instance(m.inst, rule)), from...)
}
