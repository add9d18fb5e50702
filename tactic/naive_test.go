package tactic

import (
	"slices"

	"triforium/api"
	"triforium/kernel"
	"triforium/resolve"
	"triforium/term"
)

// What the document says of expressions, word by word: all states at once, of propositions, hypotheses and oracles alone, but for resolution.

// says is what a state states.
type says struct {
	hyps    []api.Term
	prop    api.Term
	oracles []string
}

func what(t kernel.Theorem) says { return says{t.Hyps(), t.Prop(), t.Oracles()} }

func equalSays(a, b says) bool {
	return slices.EqualFunc(a.hyps, b.hyps, term.Equal) && term.Equal(a.prop, b.prop) && slices.Equal(a.oracles, b.oracles)
}

// naivePlace is a state with its focus. Its theorem is made for resolution by an oracle, of what is stated.
type naivePlace struct {
	says
	from, count int
}

func (p naivePlace) goals() []api.Term {
	l, _ := term.Strip(p.prop)
	return l
}

// theorem returns a theorem that states the same, but for an oracle more.
func (p naivePlace) theorem() kernel.Theorem {
	t, e := kernel.Oracle(little(), "orc2", p.prop)
	for _, h := range p.hyps {
		if e == api.OK {
			t, e = kernel.ImpIntro(h, t)
		}
		if e == api.OK {
			var a kernel.Theorem
			a, e = kernel.Assume(little(), h)
			if e == api.OK {
				t, e = kernel.ImpElim(t, a)
			}
		}
	}
	if e != api.OK {
		panic(e)
	}
	return t
}

// naive evaluates expressions, with a bound on the steps.
type naive struct {
	rules []kernel.Theorem
	steps int
}

func imply(l []api.Term, t api.Term) api.Term {
	for i := len(l) - 1; i >= 0; i-- {
		t = term.Imp(l[i], t)
	}
	return t
}

// made returns a state that a step has made, if it is permitted.
func (n *naive) made(p naivePlace, s says) []naivePlace {
	goals, _ := term.Strip(s.prop)
	nodes, depth := term.Size(s.prop)
	if len(goals) > MaxGoals || nodes > 2000 || depth > 100 || len(s.hyps) > 100 || term.Agree(append(slices.Clone(s.hyps), s.prop)) != api.OK {
		return nil
	}
	return []naivePlace{{s, p.from, p.count + len(goals) - len(p.goals())}}
}

func unionTerms(a, b []api.Term) []api.Term {
	l := slices.Concat(a, b)
	slices.SortFunc(l, term.Compare)
	return slices.CompactFunc(l, term.Equal)
}

func unionNames(a, b []string) []string {
	l := slices.Concat(a, b)
	slices.Sort(l)
	return slices.Compact(l)
}

// replacedBy returns the state with subgoals in the place of one.
func (p naivePlace) replacedBy(at int, news ...api.Term) says {
	goals, concl := term.Strip(p.prop)
	goals = slices.Concat(goals[:at], news, goals[at+1:])
	return says{p.hyps, imply(goals, concl), p.oracles}
}

func (n *naive) basic(e Expr, p naivePlace) []naivePlace {
	if n.steps++; n.steps > 60 {
		panic("many steps")
	}
	if e.At >= p.count {
		return nil
	}
	at := p.from + e.At
	goal := p.goals()[at]
	var out []naivePlace
	switch e.Kind {
	case Rule, Erule, Drule, Assume:
		var l []kernel.Theorem
		var oracles []string
		if e.Kind == Assume {
			l, _, _ = resolve.Solved(at, p.theorem(), 8, 1000)
		} else {
			l, _, _ = resolve.First(n.rules[e.Num], at, p.theorem(), e.Kind-Rule+resolve.Rule, 8, 1000)
			oracles = n.rules[e.Num].Oracles()
		}
		for _, t := range l {
			out = append(out, n.made(p, says{t.Hyps(), t.Prop(), unionNames(p.oracles, oracles)})...)
		}
	case Rotate:
		goals, concl := term.Strip(p.prop)
		last := p.from + p.count
		goals = slices.Insert(slices.Clone(goals), last, goal)
		goals = slices.Delete(goals, at, at+1)
		out = n.made(p, says{p.hyps, imply(goals, concl), p.oracles})
	case Protect:
		now := term.Protect(goal)
		if b, ok := term.IsProtect(goal); ok {
			now = b
		}
		out = n.made(p, p.replacedBy(at, now))
	case Unfold:
		rule := n.rules[e.Num]
		c, r, ok := term.IsEq(rule.Prop())
		if !ok || c.Op != api.Const && c.Op != api.Free {
			return nil
		}
		now := term.Put(term.Bind(c, goal), r)
		if c.Op == api.Const {
			now = naiveUnfold(c, r, goal)
		}
		if term.Equal(now, goal) && !hasTerm(c, goal) {
			return nil
		}
		s := p.replacedBy(at, now)
		s.hyps, s.oracles = unionTerms(s.hyps, rule.Hyps()), unionNames(s.oracles, rule.Oracles())
		out = n.made(p, s)
	case Cut:
		if k, e2 := term.Check(little(), e.Prop); e2 != api.OK || k.Name != "prop" {
			return nil
		}
		out = n.made(p, p.replacedBy(at, e.Prop, term.Imp(e.Prop, goal)))
	}
	return out
}

func naiveUnfold(c, r, t api.Term) api.Term {
	if term.Equal(c, t) {
		return r
	}
	t.Kids = slices.Clone(t.Kids)
	for i := range t.Kids {
		t.Kids[i] = naiveUnfold(c, r, t.Kids[i])
	}
	return t
}

func hasTerm(c, t api.Term) bool {
	return term.Equal(c, t) || slices.ContainsFunc(t.Kids, func(k api.Term) bool { return hasTerm(c, k) })
}

// all returns all states that an expression makes.
func (n *naive) all(e Expr, p naivePlace) []naivePlace {
	each := func(l []naivePlace, f func(naivePlace) []naivePlace) []naivePlace {
		var out []naivePlace
		for _, q := range l {
			out = append(out, f(q)...)
		}
		return out
	}
	kid := func(i int) []naivePlace { return n.all(e.Kids[i], p) }
	switch e.Kind {
	case Pass:
		return []naivePlace{p}
	case Fail:
		return nil
	case Then:
		return each(kid(0), func(q naivePlace) []naivePlace { return n.all(e.Kids[1], q) })
	case Or:
		return slices.Concat(kid(0), kid(1))
	case Else:
		if l := kid(0); len(l) > 0 {
			return l
		}
		return kid(1)
	case Try:
		if l := kid(0); len(l) > 0 {
			return l
		}
		return []naivePlace{p}
	case Repeat:
		if n.steps++; n.steps > 60 {
			panic("many steps")
		}
		if l := kid(0); len(l) > 0 {
			return each(l, func(q naivePlace) []naivePlace { return n.all(e, q) })
		}
		return []naivePlace{p}
	case Each:
		l := []naivePlace{p}
		for i := p.from + p.count - 1; i >= p.from; i-- {
			l = each(l, func(q naivePlace) []naivePlace {
				var out []naivePlace
				for _, x := range n.all(e.Kids[0], naivePlace{q.says, i, 1}) {
					out = append(out, naivePlace{x.says, q.from, q.count + len(x.goals()) - len(q.goals())})
				}
				return out
			})
		}
		return l
	case First:
		l := kid(0)
		return l[:min(1, len(l))]
	case Solve:
		return each(kid(0), func(q naivePlace) []naivePlace {
			if q.count < p.count {
				return []naivePlace{q}
			}
			return nil
		})
	}
	return n.basic(e, p)
}

// naiveRun returns what all states state that an expression makes; false, if there are many steps.
func naiveRun(rules []kernel.Theorem, e Expr, state kernel.Theorem) (out []says, ok bool) {
	defer func() {
		if r := recover(); r != nil {
			out, ok = nil, false
		}
	}()
	n := &naive{rules: rules}
	p := naivePlace{says: what(state)}
	p.count = len(p.goals())
	for _, q := range n.all(e, p) {
		out = append(out, q.says)
	}
	return out, true
}
