package checker

import (
	"cmp"
	"slices"

	"triforium/api"
)

// checker finds what proofs prove in a theory.
type checker struct {
	*language
}

// maxBinds is how many binds of each kind an instantiation has at most, and how many names of each kind a generalization.
const maxBinds = 100

// proved returns what a proof proves.
func (c checker) proved(p *api.Proof) fact {
	var kids []fact
	for i := range p.Kids {
		k := c.proved(&p.Kids[i])
		kids = append(kids, k)
	}
	want(len(kids) == kidsOf(p.Op))
	f := c.made(p, kids)
	want(len(f.hyps) <= api.MaxHyps)
	checkSize(f.prop)
	return f
}

// kidsOf returns how many Kids the proofs of a kind have.
func kidsOf(kind int) int {
	switch kind {
	case api.ByAxiom, api.ByOracle, api.Assume, api.Reflexive, api.Beta, api.Eta:
		return 0
	case api.ImpIntro, api.AllIntro, api.AllElim, api.Symmetric, api.Abstraction, api.Instantiate, api.Generalize:
		return 1
	case api.ImpElim, api.Transitive, api.Combination, api.EqIntro, api.EqElim:
		return 2
	}
	return -1
}

// made returns what a rule makes of what the Kids prove.
func (c checker) made(p *api.Proof, kids []fact) fact {
	switch p.Op {
	case api.ByAxiom:
		prop, ok := c.axioms[p.Name]
		want(ok)
		return fact{prop: prop}
	case api.ByOracle, api.Assume, api.Reflexive, api.Beta, api.Eta:
		return c.fromTerm(p, c.checkTerm(&p.Term))
	case api.ImpIntro, api.AllIntro, api.AllElim, api.Abstraction:
		t := c.checkTerm(&p.Term)
		v := variables{}
		v.addTerm(&p.Term)
		v.addFact(kids[0])
		return withTerm(p, t, kids[0])
	case api.Symmetric:
		t, a, b := sides(kids[0].prop)
		return fact{kids[0].hyps, equation(t, b, a), kids[0].oracles}
	case api.Instantiate:
		return c.instantiated(&p.Inst, kids[0])
	case api.Generalize:
		return generalized(p, kids[0])
	}
	v := variables{}
	v.addFact(kids[0])
	v.addFact(kids[1])
	return fact{
		union(kids[0].hyps, kids[1].hyps, compareTerms),
		fromTwo(p.Op, kids[0].prop, kids[1].prop),
		union(kids[0].oracles, kids[1].oracles, cmp.Compare[string]),
	}
}

// fromTerm returns what the rules make that take no theorem, but a right term of a type.
func (c checker) fromTerm(p *api.Proof, t *api.Type) fact {
	a := &p.Term
	switch p.Op {
	case api.ByOracle:
		want(isProp(t) && c.oracles[p.Name])
		return fact{prop: a, oracles: []string{p.Name}}
	case api.Assume:
		want(isProp(t))
		return fact{hyps: []*api.Term{a}, prop: a}
	case api.Reflexive:
		return fact{prop: equation(t, a, a)}
	case api.Beta:
		want(a.Op == api.App && a.Kids[0].Op == api.Abs)
		return fact{prop: equation(t, a, put(&a.Kids[0].Kids[0], &a.Kids[1]))}
	}
	want(a.Op == api.Abs && a.Kids[0].Op == api.App)
	f, x := &a.Kids[0].Kids[0], &a.Kids[0].Kids[1]
	want(x.Op == api.Bound && x.Num == 0 && !hasBound(f, 0))
	return fact{prop: equation(t, a, f)} // f has no other loose Bound than this one, and so none
}

// withTerm returns what the rules make that take a right term of a type, and a theorem that fits to it.
func withTerm(p *api.Proof, t *api.Type, b fact) fact {
	x := &p.Term
	switch p.Op {
	case api.ImpIntro:
		want(isProp(t))
		isOther := func(h *api.Term) bool { return compareTerms(h, x) != 0 }
		return fact{filtered(b.hyps, isOther), implication(x, b.prop), b.oracles}
	case api.AllElim:
		abs, ok := isAll(b.prop)
		want(ok && compareTypes(&abs.Type, t) == 0)
		return fact{b.hyps, put(&abs.Kids[0], x), b.oracles}
	}
	want(x.Op == api.Free)
	for _, h := range b.hyps {
		want(!hasFree(h, x.Name))
	}
	if p.Op == api.AllIntro {
		return fact{b.hyps, all(x, b.prop), b.oracles}
	}
	k, l, r := sides(b.prop)
	return fact{b.hyps, equation(fun(&x.Type, k), abstracted(x, l), abstracted(x, r)), b.oracles}
}

// fromTwo returns the proposition that a rule makes of two.
func fromTwo(kind int, p, q *api.Term) *api.Term {
	switch kind {
	case api.ImpElim:
		a, b := premise(p)
		want(compareTerms(a, q) == 0)
		return b
	case api.Transitive:
		t, a, b := sides(p)
		_, again, d := sides(q)
		want(compareTerms(b, again) == 0)
		return equation(t, a, d)
	case api.Combination:
		t, f, g := sides(p)
		k, a, b := sides(q)
		want(isFun(t) && compareTypes(&t.Args[0], k) == 0)
		return equation(&t.Args[1], app(f, a), app(g, b))
	case api.EqIntro:
		a, b := premise(p)
		d, e := premise(q)
		want(compareTerms(a, e) == 0 && compareTerms(b, d) == 0)
		return equation(&api.Type{Op: api.TCon, Name: "prop"}, a, b)
	}
	_, a, b := sides(p) // EqElim
	want(compareTerms(a, q) == 0)
	return b
}

// union returns the elements of two ascending lists, ascending, each once.
func union[T any](a, b []T, compare func(T, T) int) []T {
	if len(b) == 0 {
		return a
	}
	out := slices.Concat(a, b)
	slices.SortStableFunc(out, compare)
	return slices.CompactFunc(out, func(x, y T) bool { return compare(x, y) == 0 })
}

// filtered returns the elements that are as a function says.
func filtered[T any](l []T, is func(T) bool) []T {
	var out []T
	for _, x := range l {
		if is(x) {
			out = append(out, x)
		}
	}
	return out
}

// generalized returns what Generalize makes of a theorem.
func generalized(p *api.Proof, b fact) fact {
	want(p.Num >= 0 && p.Num <= maxIndex)
	g := generalizer{nameSet(p.TypeNames), nameSet(p.TermNames), p.Num}
	for _, h := range b.hyps {
		g.checkTerm(h, true)
	}
	g.checkTerm(b.prop, false)
	return fact{b.hyps, g.term(b.prop), b.oracles}
}

// nameSet returns a set of names, each of which stands once in a list.
func nameSet(l []string) map[string]bool {
	want(len(l) <= maxBinds)
	m := map[string]bool{}
	for _, s := range l {
		want(!m[s])
		m[s] = true
	}
	return m
}

// generalizer makes fixed variables of some names schematic ones with an index.
type generalizer struct {
	types, terms map[string]bool
	index        int
}

// checkTerm leaves the checker, if a term has what the variables are to become, or, of a hypothesis, one of them.
func (g generalizer) checkTerm(t *api.Term, isHyp bool) {
	if g.terms[t.Name] {
		want(t.Op != api.Var || t.Num != g.index)
		want(t.Op != api.Free || !isHyp)
	}
	g.checkType(&t.Type, isHyp)
	for i := range t.Kids {
		g.checkTerm(&t.Kids[i], isHyp)
	}
}

func (g generalizer) checkType(t *api.Type, isHyp bool) {
	if g.types[t.Name] {
		want(t.Op != api.TVar || t.Index != g.index)
		want(t.Op != api.TFree || !isHyp)
	}
	for i := range t.Args {
		g.checkType(&t.Args[i], isHyp)
	}
}

func (g generalizer) term(t *api.Term) *api.Term {
	out := *t
	if t.Op == api.Free && g.terms[t.Name] {
		out.Op, out.Num = api.Var, g.index
	}
	out.Type = g.typ(&t.Type)
	out.Kids = make([]api.Term, len(t.Kids))
	for i := range t.Kids {
		out.Kids[i] = *g.term(&t.Kids[i])
	}
	return &out
}

func (g generalizer) typ(t *api.Type) api.Type {
	out := *t
	if t.Op == api.TFree && g.types[t.Name] {
		out.Op, out.Index = api.TVar, g.index
	}
	out.Args = make([]api.Type, len(t.Args))
	for i := range t.Args {
		out.Args[i] = g.typ(&t.Args[i])
	}
	return out
}
