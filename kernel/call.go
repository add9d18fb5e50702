package kernel

import (
	"cmp"
	"slices"

	"triforium/api"
	"triforium/term"
	"triforium/types"
)

// Rules of steps that are no kinds of proofs.
const (
	TransferRule = 19 // the theorem in the theory
	LastRule     = 19
)

// maxNest is how many nodes of a theorem's proof may be within each other.
const maxNest = 30000

// rule says what a rule takes, and makes a theorem of it.
type rule struct {
	theorems         int
	theory           bool
	name, inst, list bool
	term, prop       bool // prop: the term has to be a proposition
	make             func(*call) *sequent
}

// ruleOf returns the rule with a number from api.ByAxiom to LastRule.
func ruleOf(n int) rule {
	rules := [...]rule{
		api.ByAxiom:     {theory: true, name: true, make: (*call).axiom},
		api.ByOracle:    {theory: true, name: true, term: true, prop: true, make: (*call).oracle},
		api.Assume:      {theory: true, term: true, prop: true, make: (*call).assume},
		api.ImpIntro:    {theorems: 1, term: true, prop: true, make: (*call).impIntro},
		api.ImpElim:     {theorems: 2, make: (*call).impElim},
		api.AllIntro:    {theorems: 1, term: true, make: (*call).allIntro},
		api.AllElim:     {theorems: 1, term: true, make: (*call).allElim},
		api.Reflexive:   {theory: true, term: true, make: (*call).reflexive},
		api.Symmetric:   {theorems: 1, make: (*call).symmetric},
		api.Transitive:  {theorems: 2, make: (*call).transitive},
		api.Combination: {theorems: 2, make: (*call).combination},
		api.Abstraction: {theorems: 1, term: true, make: (*call).abstraction},
		api.Beta:        {theory: true, term: true, make: (*call).beta},
		api.Eta:         {theory: true, term: true, make: (*call).eta},
		api.EqIntro:     {theorems: 2, make: (*call).eqIntro},
		api.EqElim:      {theorems: 2, make: (*call).eqElim},
		api.Instantiate: {theorems: 1, inst: true, make: (*call).instantiate},
		api.Generalize:  {theorems: 1, list: true, make: (*call).generalize},
		TransferRule:    {theorems: 1, theory: true, make: (*call).transfer},
	}
	return rules[n]
}

// call is what a rule makes a theorem of. What it has of Step is what the rule takes alone; the Term is in its own memory, and right in the theory.
type call struct {
	Step
	base *base // the theory of the result
	typ  api.Type
	from []*sequent
}

// apply asks a rule for a theorem; a rule that takes a theory opens it.
func apply(s Step, open func() *base, from ...Theorem) (t Theorem, err api.Errno) {
	defer func() {
		if r := recover(); r != nil {
			t, err = Theorem{}, errorOf(r)
		}
	}()
	r := ruleOf(s.Rule)
	c := &call{Step: Step{Rule: s.Rule}}
	c.takeTheorems(r, open, from)
	c.takeFields(r, s)
	c.checkTogether(r)
	return Theorem{r.make(c)}, api.OK
}

// takeTheorems takes the theorems, and the theory of the result.
func (c *call) takeTheorems(r rule, open func() *base, from []Theorem) {
	for _, t := range from {
		want(t.s != nil, ErrNone)
		c.from = append(c.from, t.s)
	}
	switch {
	case r.theory:
		c.base = open()
	case r.theorems == 2:
		c.base = joint(c.from[0].base, c.from[1].base)
	default:
		c.base = c.from[0].base
	}
}

// takeFields takes what the rule takes beside theorems.
func (c *call) takeFields(r rule, s Step) {
	if r.name {
		c.Name = s.Name
	}
	if r.inst {
		c.Inst = s.Inst
	}
	if r.list {
		c.TypeNames, c.TermNames, c.Num = slices.Clone(s.TypeNames), slices.Clone(s.TermNames), s.Num
	}
	if !r.term {
		return
	}
	t, e := c.base.sign.Check(s.Term)
	must(e)
	want(!r.prop || types.Equal(t, types.Prop()), api.ErrType)
	c.Term, c.typ = term.Copy(s.Term), t
}

// checkTogether panics, if the sorts or types of variables differ in what the theorem is made of. A term alone, or a theorem alone, was found right.
func (c *call) checkTogether(r rule) {
	if len(c.from) == 0 || len(c.from) == 1 && !r.term || len(c.from) == 2 && c.from[0] == c.from[1] {
		return
	}
	var v variables
	for _, s := range c.from {
		v.addSequent(s)
	}
	if r.term {
		v.addTerm(&c.Term)
	}
	v.check()
}

// merged returns the elements of two ascending lists, ascending, each once.
func merged[T any](a, b []T, compare func(T, T) int) []T {
	if len(a) == 0 || len(b) == 0 {
		return slices.Concat(a, b)
	}
	var out []T
	for len(a) > 0 && len(b) > 0 {
		k := compare(a[0], b[0])
		if k <= 0 {
			out = append(out, a[0])
			a = a[1:]
		} else {
			out = append(out, b[0])
		}
		if k >= 0 {
			b = b[1:]
		}
	}
	return slices.Concat(out, a, b)
}

// hyps returns the hypotheses of all theorems.
func (c *call) hyps() []api.Term {
	var l []api.Term
	for _, s := range c.from {
		l = merged(l, s.hyps, term.Compare)
	}
	return l
}

// states returns the theorem that a proposition follows from all hypotheses, or panics, if it is too large.
func (c *call) states(prop api.Term) *sequent {
	return c.follows(c.hyps(), prop)
}

// follows returns the theorem that a proposition follows from hypotheses that are not too large, or panics, if it is too large itself.
func (c *call) follows(hyps []api.Term, prop api.Term) *sequent {
	s := &sequent{base: c.base, hyps: hyps, prop: prop}
	s.proof = api.Proof{Op: c.Rule, Name: c.Name, Term: c.Term, Inst: c.Inst, TypeNames: c.TypeNames, TermNames: c.TermNames, Num: c.Num}
	for _, f := range c.from {
		s.oracles = merged(s.oracles, f.oracles, cmp.Compare[string])
		s.proof.Kids = append(s.proof.Kids, f.proof)
		s.nodes += f.nodes
		s.depth = max(s.depth, f.depth)
	}
	s.nodes++
	s.depth++
	want(len(hyps) <= api.MaxHyps, api.ErrCount)
	want(fits(&prop) && s.nodes <= api.MaxProof && s.depth <= maxNest, api.ErrLarge)
	return s
}

// fits reports whether a term, and the types in it, are not too large.
func fits(t *api.Term) bool {
	nodes, depth := term.Size(*t)
	return nodes <= api.MaxTerm && depth <= api.MaxDepth && typesFit(t)
}

func typesFit(t *api.Term) bool {
	if !sizeFits(types.Size(t.Type)) {
		return false
	}
	for i := range t.Kids {
		if !typesFit(&t.Kids[i]) {
			return false
		}
	}
	return true
}

// sizeFits reports whether a type of a size is not too large.
func sizeFits(nodes, depth int) bool {
	return nodes <= api.MaxType && depth <= api.MaxDepth
}
