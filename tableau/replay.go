package tableau

import (
	"triforium/api"
	"triforium/derive"
	"triforium/hol"
	"triforium/kernel"
	"triforium/term"
)

// Replay returns the theorem of False from the formulas of a closed tableau.
func Replay(thy api.Theory, l []api.Term, t Tree) (kernel.Theorem, api.Errno) {
	base, book, e := formulas(thy, l)
	if e != api.OK {
		return kernel.Theorem{}, e
	}
	if e := checkOn(base, l, t); e != api.OK {
		return kernel.Theorem{}, e
	}
	return replayOn(base, book, l, t)
}

// replayOn is Replay of a tableau that is right.
func replayOn(base kernel.Base, book *hol.Book, l []api.Term, t Tree) (kernel.Theorem, api.Errno) {
	return derive.Proved(func() kernel.Theorem {
		p := player{derive.New(base, l), book}
		p.avoid(t)
		return p.play(l, t)
	})
}

// Prove returns the theorem of a formula, by a closed tableau of its negation.
func Prove(thy api.Theory, formula api.Term, gammas, nodes int) (kernel.Theorem, api.Errno) {
	l := []api.Term{hol.Not(formula)}
	t, e := Search(thy, l, gammas, nodes)
	if e != api.OK {
		return kernel.Theorem{}, e
	}
	base, book, e := formulas(thy, l)
	if e != api.OK {
		return kernel.Theorem{}, e
	}
	th, e := replayOn(base, book, l, t)
	if e != api.OK {
		return kernel.Theorem{}, e
	}
	return derive.Proved(func() kernel.Theorem {
		return derive.Elim(book.Of("ccontr", nil, formula), derive.Discharge(th, hol.Truth(l[0])))
	})
}

// player replays a tableau: of each node it proves False from the formulas of its branch.
type player struct {
	*derive.Prover
	book *hol.Book
}

// avoid takes the names of the terms of a tableau.
func (p player) avoid(t Tree) {
	p.Avoid(t.Term)
	for _, k := range t.Kids {
		p.avoid(k)
	}
}

func (p player) play(branch []api.Term, t Tree) kernel.Theorem {
	f := branch[t.At]
	given := p.Assume(hol.Truth(f))
	if t.Kind == Close {
		return p.close(f, branch[t.Other], t.At == t.Other)
	}
	_, l := kindOf(f)
	switch t.Kind {
	case Beta:
		var cases []kernel.Theorem
		for i, k := range t.Kids {
			next, _ := extended(branch, l[i:i+1])
			cases = append(cases, derive.Discharge(p.play(next, k), hol.Truth(l[i])))
		}
		return p.disjunction(f, given, cases)
	case Gamma:
		now := p.Normalized(p.specialized(f, given, t.Term))
		i := now.Prop()
		next, _ := extended(branch, []api.Term{i.Kids[1]})
		return derive.Elim(derive.Discharge(p.play(next, t.Kids[0]), i), now)
	case Delta:
		return p.chosen(branch, f, given, t)
	}
	next, _ := extended(branch, l)
	th := p.play(next, t.Kids[0])
	facts := p.conjunction(f, given)
	for _, a := range facts {
		th = derive.Elim(derive.Discharge(th, a.Prop()), a)
	}
	return th
}

// close returns False from two formulas, or one, that contradict each other.
func (p player) close(a, b api.Term, alone bool) kernel.Theorem {
	if !alone && !isNotOf(a, b) {
		a, b = b, a
	}
	first := p.Assume(hol.Truth(a))
	name, l := parts(a)
	if name == "False" && alone {
		return first
	}
	not := derive.Elim(p.book.Of("notE", nil, l[0], hol.False()), first)
	if !alone {
		return derive.Elim(not, p.Assume(hol.Truth(b)))
	}
	if name, l = parts(l[0]); name == "True" {
		return derive.Elim(not, p.book.Of("trueI", nil))
	}
	return derive.Elim(not, p.book.Of("refl", []api.Type{elementType(a.Kids[1])}, l[0]))
}

// elementType returns the type of the sides of an Equal.
func elementType(t api.Term) api.Type { return t.Kids[0].Kids[0].Type.Args[0] }

// forward returns what an equation of two formulas, a rule of this name, makes of a formula that has the form of its left side.
func (p player) forward(rule string, kinds []api.Type, given kernel.Theorem, l ...api.Term) kernel.Theorem {
	eq := p.book.Of(rule, kinds, l...)
	_, sides := hol.Connective(eq.Prop().Kids[1])
	return derive.Elim(p.book.Of("iffD1", nil, sides...), eq, given)
}

// conjunction returns the parts of a formula of the kind Alpha or Twice.
func (p player) conjunction(f api.Term, given kernel.Theorem) []kernel.Theorem {
	name, l := parts(f)
	if name == "Not" {
		name, l = parts(l[0])
		switch name {
		case "Not":
			return []kernel.Theorem{p.forward("not_not", nil, given, l...)}
		case "Or":
			given = p.forward("not_disj", nil, given, l...)
			l = []api.Term{hol.Not(l[0]), hol.Not(l[1])}
		default:
			given = p.forward("not_imp", nil, given, l...)
			l = []api.Term{l[0], hol.Not(l[1])}
		}
	}
	return []kernel.Theorem{derive.Elim(p.book.Of("conjunct1", nil, l...), given), derive.Elim(p.book.Of("conjunct2", nil, l...), given)}
}

// disjunction returns False from a formula of the kind Beta, each part of which implies it.
func (p player) disjunction(f api.Term, given kernel.Theorem, cases []kernel.Theorem) kernel.Theorem {
	name, l := parts(f)
	switch name {
	case "Equal":
		return p.same(l[0], l[1], given, cases)
	case "Implies":
		given = p.forward("imp_disj", nil, given, l...)
		l = []api.Term{hol.Not(l[0]), l[1]}
	case "Not":
		inner := l[0]
		name, l = parts(inner)
		if name == "Equal" {
			return p.different(l[0], l[1], given, cases)
		}
		given = p.forward("not_conj", nil, given, l...)
		l = []api.Term{hol.Not(l[0]), hol.Not(l[1])}
	}
	return derive.Elim(p.book.Of("disjE", nil, l[0], l[1], hol.False()), append([]kernel.Theorem{given}, cases...)...)
}

// byCases returns False from a formula, and from its negation.
func (p player) byCases(a api.Term, yes, no func(h kernel.Theorem) kernel.Theorem) kernel.Theorem {
	either := p.book.Of("excluded_middle", nil, a)
	return derive.Elim(p.book.Of("disjE", nil, a, hol.Not(a), hol.False()), either, p.assuming(a, yes), p.assuming(hol.Not(a), no))
}

// assuming returns that a formula implies what a function proves of it.
func (p player) assuming(a api.Term, f func(h kernel.Theorem) kernel.Theorem) kernel.Theorem {
	t := hol.Truth(a)
	return derive.Discharge(f(p.Assume(t)), t)
}

// absurd returns a formula from another one and its negation.
func (p player) absurd(a, goal api.Term, not, h kernel.Theorem) kernel.Theorem {
	return derive.Elim(p.book.Of("notE", nil, a, goal), not, h)
}

func (p player) both(a, b api.Term, x, y kernel.Theorem) kernel.Theorem {
	return derive.Elim(p.book.Of("conjI", nil, a, b), x, y)
}

// same returns False from Equal a b, and what follows from both, and from neither.
func (p player) same(a, b api.Term, given kernel.Theorem, cases []kernel.Theorem) kernel.Theorem {
	return p.byCases(a, func(h kernel.Theorem) kernel.Theorem {
		other := derive.Elim(p.book.Of("iffD1", nil, a, b), given, h)
		return derive.Elim(cases[0], p.both(a, b, h, other))
	}, func(n kernel.Theorem) kernel.Theorem {
		no := derive.Elim(p.book.Of("notI", nil, b), p.assuming(b, func(h kernel.Theorem) kernel.Theorem {
			return p.absurd(a, hol.False(), n, derive.Elim(p.book.Of("iffD2", nil, a, b), given, h))
		}))
		return derive.Elim(cases[1], p.both(hol.Not(a), hol.Not(b), n, no))
	})
}

// different returns False from Not (Equal a b), and what follows from each one without the other one.
func (p player) different(a, b api.Term, given kernel.Theorem, cases []kernel.Theorem) kernel.Theorem {
	eq := derive.Must(hol.Equal(a, b))
	iff := func(first, second kernel.Theorem) kernel.Theorem {
		return p.absurd(eq, hol.False(), given, derive.Elim(p.book.Of("iffI", nil, a, b), first, second))
	}
	always := func(x kernel.Theorem) func(kernel.Theorem) kernel.Theorem {
		return func(kernel.Theorem) kernel.Theorem { return x }
	}
	return p.byCases(a, func(h kernel.Theorem) kernel.Theorem {
		no := derive.Elim(p.book.Of("notI", nil, b), p.assuming(b, func(k kernel.Theorem) kernel.Theorem {
			return iff(p.assuming(a, always(k)), p.assuming(b, always(h)))
		}))
		return derive.Elim(cases[0], p.both(a, hol.Not(b), h, no))
	}, func(n kernel.Theorem) kernel.Theorem {
		other := derive.Elim(p.book.Of("ccontr", nil, b), p.assuming(hol.Not(b), func(m kernel.Theorem) kernel.Theorem {
			first := p.assuming(a, func(h kernel.Theorem) kernel.Theorem { return p.absurd(a, b, n, h) })
			second := p.assuming(b, func(h kernel.Theorem) kernel.Theorem { return p.absurd(b, a, m, h) })
			return iff(first, second)
		}))
		return derive.Elim(cases[1], p.both(hol.Not(a), b, n, other))
	})
}

// opened returns what a formula of the kind Gamma or Delta says with All or Ex ahead: the set, the type of its elements, and the theorem.
func (p player) opened(f api.Term, given kernel.Theorem) (api.Term, api.Type, kernel.Theorem) {
	name, l := parts(f)
	rule := ""
	if name == "Not" {
		f = l[0]
		name, l = parts(f)
		rule = "not_all"
		if name == "Ex" {
			rule = "not_ex"
		}
	}
	k := f.Kids[0].Type.Args[0].Args[0]
	if rule == "" {
		return l[0], k, given
	}
	now := p.forward(rule, []api.Type{k}, given, l[0])
	return now.Prop().Kids[1].Kids[1], k, now
}

// specialized returns what a formula of the kind Gamma says of a term.
func (p player) specialized(f api.Term, given kernel.Theorem, a api.Term) kernel.Theorem {
	set, k, now := p.opened(f, given)
	return derive.Elim(p.book.Of("spec", []api.Type{k}, set, a), now)
}

// chosen returns False from a formula of the kind Delta, by the Free that its node has.
func (p player) chosen(branch []api.Term, f api.Term, given kernel.Theorem, t Tree) kernel.Theorem {
	set, k, now := p.opened(f, given)
	raw := hol.Truth(term.Apps(set, []api.Term{t.Term}))
	e := p.Normal(raw)
	next, _ := extended(branch, []api.Term{e.Right.Kids[1]})
	th := derive.Discharge(p.play(next, t.Kids[0]), e.Right)
	th = derive.Discharge(derive.Elim(th, derive.Changed(e, p.Assume(raw))), raw)
	return derive.Elim(p.book.Of("exE", []api.Type{k}, set, hol.False()), now, derive.Generally(th, t.Term))
}
