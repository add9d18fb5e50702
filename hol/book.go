package hol

import (
	"triforium/api"
	"triforium/derive"
	"triforium/kernel"
	"triforium/term"
	"triforium/theory"
)

// Book has the axioms and derived rules of HOL and Nat as theorems of one theory, each of which it proves once. Who needs many of them takes one.
type Book struct {
	base kernel.Base
	made map[string]kernel.Theorem
}

// NewBook returns the book of a theory: the error of theory.Check, or api.ErrTheory, if HOL is not within it.
func NewBook(thy api.Theory) (*Book, api.Errno) {
	base, e := kernel.On(thy)
	if e != api.OK {
		return nil, e
	}
	return BookOn(base)
}

// BookOn is NewBook of a theory that was checked.
func BookOn(base kernel.Base) (*Book, api.Errno) {
	if !Has(base) {
		return nil, api.ErrTheory
	}
	return &Book{base, map[string]kernel.Theorem{}}, api.OK
}

// Rule returns an axiom or a derived rule of HOL, or, if the theory has Nat, of this.
func (b *Book) Rule(name string) (kernel.Theorem, api.Errno) {
	if t, ok := b.made[name]; ok {
		return t, api.OK
	}
	t, e := b.find(name)
	if e == api.OK {
		b.made[name] = t
	}
	return t, e
}

// find returns an axiom, or proves a rule.
func (b *Book) find(name string) (kernel.Theorem, api.Errno) {
	if s, ok := lineOf(holRules, name); ok {
		return b.prove(s, logicProofs()[name], false)
	}
	if s, ok := lineOf(natRules, name); ok {
		return b.prove(s, natProofs()[name], true)
	}
	if _, ok := theoryOf(name); !ok {
		return kernel.Theorem{}, api.ErrMissing
	}
	return b.base.Axiom(name)
}

// proof makes the conclusion of a rule from its premises.
type proof func(p *prover, premises []kernel.Theorem) kernel.Theorem

// prove proves a rule: with Frees in the place of its variables, which are made schematic at last.
func (b *Book) prove(rule string, how proof, nat bool) (kernel.Theorem, api.Errno) {
	return derive.Proved(func() kernel.Theorem {
		p := newProver(b, rule, nat)
		premises, _ := term.Strip(p.rule)
		var given []kernel.Theorem
		for _, a := range premises {
			given = append(given, p.Assume(a))
		}
		t := derive.Discharge(how(p, given), premises...)
		var names, types []string
		for _, x := range term.Frees(p.rule) {
			names = append(names, x.Name)
		}
		for _, a := range term.TypeVariables(p.rule) {
			types = append(types, a.Name)
		}
		return derive.Must(kernel.Generalize(types, names, 0, t))
	})
}

// Of returns an instance of a rule, or leaves with an error: its type variables a and b become types, and its variables, in the order in which they stand first, terms.
func (b *Book) Of(name string, kinds []api.Type, l ...api.Term) kernel.Theorem {
	t := derive.Must(b.Rule(name))
	var i api.Inst
	for n, k := range kinds {
		i.Types = append(i.Types, api.TypeBind{Name: string(rune('a' + n)), To: k})
	}
	for n, v := range term.Vars(t.Prop()) {
		if n < len(l) {
			i.Terms = append(i.Terms, api.TermBind{Name: v.Name, Index: v.Num, To: l[n]})
		}
	}
	return derive.Instance(i, t)
}

// Meta returns a == b from Truth of Equal a b, where a and b are of a type.
func (b *Book) Meta(t kernel.Theorem) kernel.Theorem {
	_, l := term.Spine(t.Prop().Kids[1])
	k := t.Prop().Kids[1].Kids[0].Kids[0].Type.Args[0]
	return derive.Elim(b.Of("eq_reflection", []api.Type{k}, l...), t)
}

// Has reports whether HOL is within a theory.
func Has(base kernel.Base) bool { return theory.Within(HOL(), base.Theory()) }
