package sat

import (
	"slices"

	"triforium/api"
	"triforium/derive"
	"triforium/hol"
	"triforium/kernel"
	"triforium/term"
	"triforium/types"
)

// opened returns the base and the book of a theory that has HOL.
func opened(thy api.Theory) (kernel.Base, *hol.Book, api.Errno) {
	base, e := kernel.On(thy)
	if e != api.OK {
		return kernel.Base{}, nil, e
	}
	book, e := hol.BookOn(base)
	return base, book, e
}

// isFormula returns the error of a term that has to be a formula.
func isFormula(base kernel.Base, t api.Term) api.Errno {
	k, e := base.Sign().Check(t)
	if e == api.OK && !types.Equal(k, hol.BoolType()) {
		return api.ErrType
	}
	return e
}

// Tautology proves a proposition of the theory HOL that holds for all values of its atoms.
func Tautology(thy api.Theory, t api.Term, fuel int) (kernel.Theorem, api.Errno) {
	base, book, e := opened(thy)
	if e != api.OK {
		return kernel.Theorem{}, e
	}
	if e := isFormula(base, t); e != api.OK {
		return kernel.Theorem{}, e
	}
	x, e := encoded(hol.Not(t))
	if e != api.OK {
		return kernel.Theorem{}, e
	}
	l := x.all()
	r, e := Solve(l, fuel)
	if e != api.OK {
		return kernel.Theorem{}, e
	}
	if r.Holds {
		return kernel.Theorem{}, api.ErrFail
	}
	return derive.Proved(func() kernel.Theorem {
		b := newBuilder(base, book, x.terms, l)
		b.start = func(i int) kernel.Theorem { return b.defined(x, i) }
		th := b.build(r.Proof)
		return derive.Elim(book.Of("ccontr", nil, t), derive.Discharge(th, hol.Truth(hol.Not(t))))
	})
}

// Rebuild proves False from clauses as assumptions, by a resolution proof: atoms are terms of type bool.
func Rebuild(thy api.Theory, atoms []api.Term, l []Clause, p []Step) (kernel.Theorem, api.Errno) {
	base, book, e := opened(thy)
	if e != api.OK {
		return kernel.Theorem{}, e
	}
	for _, a := range atoms {
		if e := isFormula(base, a); e != api.OK {
			return kernel.Theorem{}, e
		}
	}
	if e := Check(l); e != api.OK {
		return kernel.Theorem{}, e
	}
	for _, c := range l {
		if len(c) > 0 && atomOf(c[len(c)-1]) > len(atoms) {
			return kernel.Theorem{}, api.ErrRange
		}
	}
	p, e = Trim(l, p)
	if e != api.OK {
		return kernel.Theorem{}, e
	}
	return derive.Proved(func() kernel.Theorem {
		b := newBuilder(base, book, atoms, l)
		b.start = func(i int) kernel.Theorem { return b.assumed(l[i]) }
		th := b.build(p)
		for _, i := range b.used(p) {
			// a clause that is the same as a literal may have been lost on the way
			h := hol.Truth(b.clauseTerm(l[i]))
			th = derive.Elim(derive.Discharge(th, h), b.Assume(h))
		}
		return th
	})
}

// builder makes theorems of a proof. A clause is the theorem False with the negations of its literals as hypotheses.
type builder struct {
	*derive.Prover
	book  *hol.Book
	atoms []api.Term
	given []Clause
	start func(i int) kernel.Theorem // a clause that is given
}

func newBuilder(base kernel.Base, book *hol.Book, atoms []api.Term, l []Clause) *builder {
	return &builder{Prover: derive.New(base, nil), book: book, atoms: atoms, given: l}
}

// literalTerm returns the term of a literal.
func (b *builder) literalTerm(n int) api.Term {
	a := b.atoms[atomOf(n)-1]
	if n < 0 {
		return hol.Not(a)
	}
	return a
}

// denial is the hypothesis that a literal fails.
func (b *builder) denial(n int) api.Term { return hol.Truth(b.literalTerm(-n)) }

// clauseTerm returns the term of a clause.
func (b *builder) clauseTerm(c Clause) api.Term {
	if len(c) == 0 {
		return hol.False()
	}
	last := len(c) - 1
	t := b.literalTerm(c[last])
	for _, n := range slices.Backward(c[:last]) {
		t = hol.Or(b.literalTerm(n), t)
	}
	return t
}

// clash returns False as a literal holds and fails.
func (b *builder) clash(n int, held kernel.Theorem) kernel.Theorem {
	a := b.atoms[atomOf(n)-1]
	not, yes := b.Assume(b.denial(n)), held
	if n < 0 {
		not, yes = yes, not
	}
	return derive.Elim(b.book.Of("notE", nil, a, hol.False()), not, yes)
}

// assumed returns a clause whose term is assumed.
func (b *builder) assumed(c Clause) kernel.Theorem {
	return b.opened(c, b.Assume(hol.Truth(b.clauseTerm(c))))
}

// opened returns False from the term of a clause, all literals of which fail.
func (b *builder) opened(c Clause, held kernel.Theorem) kernel.Theorem {
	if len(c) == 0 {
		return held
	}
	if len(c) == 1 {
		return b.clash(c[0], held)
	}
	first, rest := b.literalTerm(c[0]), b.clauseTerm(c[1:])
	case1 := derive.Discharge(b.clash(c[0], b.Assume(hol.Truth(first))), hol.Truth(first))
	case2 := derive.Discharge(b.opened(c[1:], b.Assume(hol.Truth(rest))), hol.Truth(rest))
	return derive.Elim(b.book.Of("disjE", nil, first, rest, hol.False()), held, case1, case2)
}

// lemma is a clause that is used more than once: it is assumed, and proved at last.
type lemma struct {
	prop  api.Term
	proof kernel.Theorem
}

// build returns False by a proof, each step of which is needed.
func (b *builder) build(p []Step) kernel.Theorem {
	if len(p) == 0 {
		empty := slices.IndexFunc(b.given, func(c Clause) bool { return len(c) == 0 })
		return b.start(empty)
	}
	made, _, e := Replay(b.given, p)
	derive.Must(made, e)
	uses := make([]int, len(b.given)+len(p))
	for _, s := range p {
		uses[s.A]++
		uses[s.B]++
	}
	var lemmas []lemma
	known := make([]kernel.Theorem, len(p))
	get := func(i int) kernel.Theorem {
		if i < len(b.given) {
			return b.start(i)
		}
		return known[i-len(b.given)]
	}
	for i, s := range p {
		t := b.resolved(get(s.A), get(s.B), s.Atom)
		if uses[len(b.given)+i] > 1 {
			now := b.lemma(made[i], t)
			lemmas = append(lemmas, now)
			t = b.restated(now.prop)
		}
		known[i] = t
	}
	out := known[len(p)-1]
	for _, x := range slices.Backward(lemmas) {
		out = derive.Elim(derive.Discharge(out, x.prop), x.proof)
	}
	return out
}

// resolved returns the resolvent of two clauses: the second one proves that the atom does not hold.
func (b *builder) resolved(x, y kernel.Theorem, atom int) kernel.Theorem {
	a := b.atoms[atom-1]
	not := derive.Elim(b.book.Of("notI", nil, a), derive.Discharge(y, hol.Truth(a)))
	return derive.Elim(derive.Discharge(x, hol.Truth(hol.Not(a))), not)
}

// lemma returns a clause as a proposition: False, if its literals fail.
func (b *builder) lemma(c Clause, t kernel.Theorem) lemma {
	for _, n := range slices.Backward(c) {
		t = derive.Discharge(t, b.denial(n))
	}
	return lemma{t.Prop(), t}
}

// restated returns a clause that is assumed as a proposition.
func (b *builder) restated(prop api.Term) kernel.Theorem {
	t := b.Assume(prop)
	premises, _ := term.Strip(prop)
	for _, a := range premises {
		t = derive.Elim(t, b.Assume(a))
	}
	return t
}

// used returns the clauses that a proof uses.
func (b *builder) used(p []Step) []int {
	if len(p) == 0 {
		return nil
	}
	met := make([]bool, len(b.given)+len(p))
	for _, s := range p {
		met[s.A], met[s.B] = true, true
	}
	var out []int
	for i := range b.given {
		if met[i] {
			out = append(out, i)
		}
	}
	return out
}
