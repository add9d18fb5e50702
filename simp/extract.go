package simp

import (
	"iter"
	"slices"

	"triforium/api"
	"triforium/derive"
	"triforium/hol"
	"triforium/kernel"
	"triforium/term"
)

// extractor makes equations of theorems.
type extractor struct {
	*derive.Prover
	book *hol.Book
}

// equations returns the equations of a theorem of the theory.
func (x extractor) equations(t kernel.Theorem) []kernel.Theorem {
	conds, _ := term.Strip(t.Prop())
	from := t
	// of any theorem that states the same: so hypotheses stay that are conditions, too
	own := len(t.Hyps()) > 0 && len(conds) > 0 || hasImplication(t.Prop())
	if own {
		from = x.Assume(t.Prop())
	}
	from = derive.Elim(from, x.assumed(conds)...)
	var out []kernel.Theorem
	for q := range x.found(found{conds, from}) {
		now := derive.Discharge(q.concl, q.conds...)
		if own {
			now = derive.Elim(derive.Discharge(now, t.Prop()), t)
		}
		out = append(out, now)
	}
	return out
}

// hasImplication reports whether a proposition has a formula that may be assumed on the way to an equation.
func hasImplication(t api.Term) bool {
	for n := range term.Nodes(t) {
		if n.Op == api.Const && n.Name == "Implies" {
			return true
		}
	}
	return false
}

func (x extractor) assumed(l []api.Term) []kernel.Theorem {
	var out []kernel.Theorem
	for _, a := range l {
		out = append(out, x.Assume(a))
	}
	return out
}

// found is a conclusion that was proved from conditions, which are assumed.
type found struct {
	conds []api.Term
	concl kernel.Theorem
}

// found yields the equations that a conclusion means.
func (x extractor) found(f found) iter.Seq[found] {
	return func(yield func(found) bool) { x.visit(f, yield) }
}

// visit yields the equations of a conclusion; it reports whether more are wanted.
func (x extractor) visit(f found, yield func(found) bool) bool {
	prop := f.concl.Prop()
	s := shapeOf(prop)
	switch s {
	case other, trivial:
		return true
	case meta:
		a, b, _ := term.IsEq(prop)
		return !isEquation(f.conds, a, b) || yield(f)
	}
	p := prop.Kids[1]
	_, l := term.Spine(p)
	switch s {
	case both:
		first := derive.Elim(x.book.Of("conjunct1", nil, l...), f.concl)
		if !x.visit(found{f.conds, first}, yield) {
			return false
		}
		return x.visit(found{f.conds, derive.Elim(x.book.Of("conjunct2", nil, l...), f.concl)}, yield)
	case hence:
		a := hol.Truth(l[0])
		next := derive.Elim(x.book.Of("mp", nil, l...), f.concl, x.Assume(a))
		return x.visit(found{append(slices.Clone(f.conds), a), next}, yield)
	case every:
		return x.visit(found{f.conds, x.special(f)}, yield)
	case equality:
		if isEquation(f.conds, l[0], l[1]) {
			return yield(found{f.conds, x.book.Meta(f.concl)})
		}
		return x.visitAs("eq_True", hol.True(), p, f, yield)
	case negation:
		return x.visitAs("eq_False", hol.False(), l[0], f, yield)
	}
	return x.visitAs("eq_True", hol.True(), p, f, yield)
}

// visitAs yields the equation of a formula with True, or False, by a rule.
func (x extractor) visitAs(rule string, value, p api.Term, f found, yield func(found) bool) bool {
	if !isEquation(f.conds, p, value) {
		return true
	}
	return yield(found{f.conds, x.book.Meta(derive.Elim(x.book.Of(rule, nil, p), f.concl))})
}

// special returns what Truth of All f says of a new variable.
func (x extractor) special(f found) kernel.Theorem {
	prop := f.concl.Prop()
	set := prop.Kids[1].Kids[1]
	k := elementType(prop.Kids[1])
	v := api.Term{Op: api.Var, Name: "x", Type: k, Num: term.MaxIndex(api.Term{Kids: append(slices.Clone(f.conds), prop)}) + 1}
	if set.Op == api.Abs && set.Name != "" {
		v.Name = set.Name
	}
	t := derive.Elim(x.book.Of("spec", []api.Type{k}, set, v), f.concl)
	if set.Op != api.Abs {
		return t
	}
	redex := derive.App(set, v)
	step := derive.Equation{Theorem: derive.Must(x.Base.Beta(redex)), Left: redex, Right: term.Put(set.Kids[0], v)}
	return derive.Changed(x.Applied(derive.Same(prop.Kids[0]), step), t)
}

// congruence returns the theorem with == for HOL's Equal in the conclusions of the premises, and in its own one.
func (x extractor) congruence(t kernel.Theorem) kernel.Theorem {
	premises, _ := term.Strip(t.Prop())
	from := t
	own := len(t.Hyps()) > 0
	if own {
		from = x.Assume(t.Prop())
	}
	var news []api.Term
	for _, d := range premises {
		assumed, concl := term.Strip(d)
		if shapeOf(concl) != equality {
			news = append(news, d)
			from = derive.Elim(from, x.Assume(d))
			continue
		}
		_, l := term.Spine(concl.Kids[1])
		k := elementType(concl.Kids[1])
		now := derive.Must(term.Eq(l[0], l[1]))
		for _, e := range slices.Backward(assumed) {
			now = term.Imp(e, now)
		}
		news = append(news, now)
		part := derive.Elim(x.book.Of("meta_eq", []api.Type{k}, l...), derive.Elim(x.Assume(now), x.assumed(assumed)...))
		from = derive.Elim(from, derive.Discharge(part, assumed...))
	}
	out := derive.Discharge(x.book.Meta(from), news...)
	if own {
		out = derive.Elim(derive.Discharge(out, t.Prop()), t)
	}
	return out
}
