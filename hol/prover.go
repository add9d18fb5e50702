package hol

import (
	"triforium/api"
	"triforium/derive"
	"triforium/kernel"
	"triforium/pattern"
	"triforium/term"
)

// prover proves one rule. Terms are written in the notation of the rules, with Frees for the variables.
type prover struct {
	*derive.Prover
	book *Book
	kinds
	rule api.Term // the rule, with Frees
}

func newProver(b *Book, rule string, nat bool) *prover {
	n := parsed(rule)
	a := api.Type{Op: api.TFree, Name: "a"}
	element := a
	if nat {
		element = NatType()
	}
	p := &prover{book: b, kinds: kindsOf(n, a, api.Type{Op: api.TFree, Name: "b"}, element)}
	p.rule = p.speller().proposition(n)
	p.Prover = derive.New(b.base, []api.Term{p.rule})
	return p
}

func (p *prover) speller() *speller {
	return &speller{kinds: p.kinds, variable: func(name string, t api.Type) api.Term {
		return api.Term{Op: api.Free, Name: name, Type: t}
	}}
}

// term reads a term.
func (p *prover) term(s string) api.Term {
	t, _ := p.speller().term(parsed(s))
	return t
}

// truth reads a proposition.
func (p *prover) truth(s string) api.Term { return p.speller().proposition(parsed(s)) }

// given is what a rule has for one of its variables.
type given struct {
	name string
	to   string // in the notation
}

// use returns what a rule says of some theorems, which are its first premises: its variables are what is given, and otherwise what these, and the goal, if there is one, tell.
func (p *prover) use(name string, l []given, goal string, from ...kernel.Theorem) kernel.Theorem {
	rule := derive.Must(p.book.Rule(name))
	var known api.Inst
	for _, v := range term.Vars(rule.Prop()) {
		for _, g := range l {
			if g.name == v.Name {
				i, e := pattern.MatchIn(p.Base.Sign(), term.Apply(known, v), p.term(g.to))
				known = derive.Must(pattern.Compose(known, derive.Must(i, e)))
			}
		}
	}
	if goal == "" {
		return p.Use(rule, known, nil, from...)
	}
	t := p.truth(goal)
	return p.Use(rule, known, &t, from...)
}

// by is use, where the theorems tell all.
func (p *prover) by(name string, from ...kernel.Theorem) kernel.Theorem {
	return p.use(name, nil, "", from...)
}

// to is use, where the goal tells what the theorems do not tell.
func (p *prover) to(goal, name string, from ...kernel.Theorem) kernel.Theorem {
	return p.use(name, nil, goal, from...)
}

// with is use, where one variable is given.
func (p *prover) with(name, variable, to string, from ...kernel.Theorem) kernel.Theorem {
	return p.use(name, []given{{variable, to}}, "", from...)
}

// imp returns that a proposition implies what a function proves of it.
func (p *prover) imp(s string, f func(h kernel.Theorem) kernel.Theorem) kernel.Theorem {
	a := p.truth(s)
	return derive.Discharge(f(p.Assume(a)), a)
}

// all returns that a theorem holds for all values of a variable.
func (p *prover) all(x string, t kernel.Theorem) kernel.Theorem {
	return derive.Generally(t, p.term(x))
}

// iff returns that two formulas are equal, each of which follows from the other one.
func (p *prover) iff(a, b string, f, g func(h kernel.Theorem) kernel.Theorem) kernel.Theorem {
	return p.by("iffI", p.imp(a, f), p.imp(b, g))
}

// absurd returns anything from a formula and its negation.
func (p *prover) absurd(goal string, not, h kernel.Theorem) kernel.Theorem {
	return p.to(goal, "notE", not, h)
}

// denied returns that a formula does not hold, from which a function proves False.
func (p *prover) denied(s string, f func(h kernel.Theorem) kernel.Theorem) kernel.Theorem {
	return p.by("notI", p.imp(s, f))
}

// cases returns what follows from a formula, and from its negation.
func (p *prover) cases(s string, yes, no func(h kernel.Theorem) kernel.Theorem) kernel.Theorem {
	either := p.with("excluded_middle", "P", s)
	return p.by("disjE", either, p.imp(s, yes), p.imp("Not ("+s+")", no))
}

// truly returns the formula True.
func (p *prover) truly() kernel.Theorem { return p.by("trueI") }

// meta returns the equation that a theorem of two equal terms means.
func (p *prover) meta(t kernel.Theorem) derive.Equation {
	return derive.Stating(p.by("eq_reflection", t))
}

// rewritten returns that a term is equal to what equations, used from the left to the right as often as they apply, make of it.
func (p *prover) rewritten(t api.Term, rules []derive.Equation) derive.Equation {
	e := derive.Same(t)
	if t.Op == api.App {
		e = p.Applied(p.rewritten(t.Kids[0], rules), p.rewritten(t.Kids[1], rules))
	}
	if t.Op == api.Abs {
		x := p.Fresh("", t.Type)
		e = derive.Within(x, p.rewritten(term.Put(t.Kids[0], x), rules))
	}
	for _, r := range rules {
		i, err := pattern.MatchIn(p.Base.Sign(), r.Left, e.Right)
		if err != api.OK {
			continue
		}
		r.Theorem = derive.Instance(i, r.Theorem)
		now := derive.Equation{Theorem: r.Theorem, Left: e.Right, Right: term.Apply(i, r.Right)}
		return derive.Joined(derive.Joined(e, now), p.rewritten(now.Right, rules))
	}
	return e
}

// equations returns rules by their names, and theorems, as equations.
func (p *prover) equations(names string, more []kernel.Theorem) []derive.Equation {
	var out []derive.Equation
	for name := range words(names) {
		out = append(out, p.meta(derive.Must(p.book.Rule(name))))
	}
	for _, t := range more {
		out = append(out, p.meta(t))
	}
	return out
}

// equal proves that two terms are equal, as equations make them the same.
func (p *prover) equal(goal, names string, more ...kernel.Theorem) kernel.Theorem {
	rules := p.equations(names, more)
	_, l := term.Spine(p.term(goal))
	a, b := p.rewritten(l[0], rules), p.rewritten(l[1], rules)
	return p.by("meta_eq", p.Stated(derive.Joined(a, derive.Turned(b))))
}

// reduced proves a formula, as equations make it what a theorem states.
func (p *prover) reduced(goal, names string, t kernel.Theorem) kernel.Theorem {
	return derive.Changed(derive.Turned(p.rewritten(p.truth(goal), p.equations(names, nil))), t)
}

// changed returns what equations make of a theorem.
func (p *prover) changed(t kernel.Theorem, names string, more ...kernel.Theorem) kernel.Theorem {
	return derive.Changed(p.rewritten(t.Prop(), p.equations(names, more)), t)
}
