package simp

import (
	"slices"

	"triforium/api"
	"triforium/derive"
	"triforium/hol"
	"triforium/kernel"
	"triforium/pattern"
	"triforium/term"
)

// fuel is what all parts of a simplification share.
type fuel struct{ used, all int }

// attempt counts an attempt, or leaves, if there is no fuel for it.
func (f *fuel) attempt() {
	if f.used >= f.all {
		panic(api.ErrFuel)
	}
	f.used++
}

// simplifier simplifies terms by a set.
type simplifier struct {
	*derive.Prover
	book  *hol.Book
	set   known
	names []string // of the Frees that those for bound variables must not be
	fuel  *fuel
}

// newSimplifier returns a simplifier; the names are those of all Frees in what is given.
func newSimplifier(base kernel.Base, book *hol.Book, set known, names []string, all int) *simplifier {
	s := &simplifier{derive.New(base, nil), book, set, names, &fuel{all: all}}
	for _, n := range names {
		s.Avoid(api.Term{Op: api.Free, Name: n})
	}
	return s
}

// view is what a part of a term is simplified with: the equations in order, the depth, and the names of the Frees for the abstractions around.
type view struct {
	equations []*equation
	depth     int
	around    []string
}

// normal returns that a term is equal to its beta-normal form; an error, or a form that is too large, ends all.
func (s *simplifier) normal(t api.Term) derive.Equation {
	n, e := term.Norm(t, normFuel)
	if e != api.OK {
		panic(e)
	}
	if nodes, depth := term.Size(n); nodes > MaxSize || depth > maxNest {
		panic(api.ErrLarge)
	}
	return s.Normal(t)
}

// simplify returns that a term is equal to its simplification.
func (s *simplifier) simplify(t api.Term, v view) derive.Equation {
	e := s.parts(t, v)
	if n := s.normal(e.Right); !term.Equal(n.Right, e.Right) {
		e = derive.Joined(e, n)
		return derive.Joined(e, s.simplify(e.Right, v))
	}
	next, ok := s.step(e.Right, v)
	if !ok {
		return e
	}
	e = derive.Joined(e, next)
	return derive.Joined(e, s.simplify(e.Right, v))
}

// step returns what an equation, or a procedure, makes of a term whose parts were simplified.
func (s *simplifier) step(u api.Term, v view) (derive.Equation, bool) {
	head, args := term.Spine(u)
	by := term.MaxIndex(u) + 1
	for _, q := range v.equations {
		if !q.mayMatch(head, len(args)) {
			continue
		}
		if e, ok := s.rewritten(q, u, by, v); ok {
			return e, true
		}
	}
	for _, p := range s.set.procs {
		if e, ok := s.proceeded(p, u, by); ok {
			return e, true
		}
	}
	return derive.Equation{}, false
}

// rewritten returns what an equation makes of a term; false, if it does not match, is not used, or a condition does not hold.
func (s *simplifier) rewritten(q *equation, u api.Term, by int, v view) (derive.Equation, bool) {
	i, e := pattern.MatchIn(s.Base.Sign(), term.Raise(q.left, by), u)
	if e != api.OK {
		return derive.Equation{}, false
	}
	now := s.normal(term.Apply(i, term.Raise(q.right, by)))
	if term.Equal(now.Right, u) || q.ordered && term.Compare(now.Right, u) >= 0 {
		return derive.Equation{}, false
	}
	s.fuel.attempt()
	var held []kernel.Theorem
	for _, c := range q.conds {
		t, ok := s.holds(term.Apply(i, term.Raise(c, by)), v)
		if !ok {
			return derive.Equation{}, false
		}
		held = append(held, t)
	}
	eq := derive.Stating(derive.Elim(q.Raised(by, i), held...))
	return derive.Joined(derive.Joined(s.Alike(u, eq.Left), eq), now), true
}

// holds proves a condition, if it holds.
func (s *simplifier) holds(c api.Term, v view) (kernel.Theorem, bool) {
	if v.depth == 0 {
		return kernel.Theorem{}, false
	}
	e := s.normal(c)
	v.depth--
	e = derive.Joined(e, s.simplify(e.Right, v))
	if shapeOf(e.Right) != trivial {
		return kernel.Theorem{}, false
	}
	return s.proved(e), true
}

// proved returns a proposition that is equal to Truth of True.
func (s *simplifier) proved(e derive.Equation) kernel.Theorem {
	return derive.Changed(derive.Turned(e), derive.Must(s.book.Rule("trueI")))
}

// proceeded returns what a procedure makes of a term.
func (s *simplifier) proceeded(p procedure, u api.Term, by int) (derive.Equation, bool) {
	if !matches(s.Base, term.Raise(p.pattern, by), u) {
		return derive.Equation{}, false
	}
	s.fuel.attempt()
	t, e := p.conv(u)
	if e != api.OK {
		return derive.Equation{}, false
	}
	eq := derive.Stating(t)
	eq = derive.Joined(eq, s.normal(eq.Right))
	return eq, !term.Equal(eq.Right, u)
}

// parts returns what comes out of a term as its parts are simplified.
func (s *simplifier) parts(t api.Term, v view) derive.Equation {
	head, args := term.Spine(t)
	if head.Op == api.Const && len(args) > 0 {
		for _, c := range s.set.congs {
			if c.name == head.Name && len(c.xs) == len(args) {
				if e, ok := s.byCongruence(c, t, v); ok {
					return e
				}
				break
			}
		}
	}
	switch t.Op {
	case api.App:
		f := s.simplify(t.Kids[0], v)
		return s.Applied(f, s.simplify(t.Kids[1], v))
	case api.Abs:
		return s.body(t, v)
	}
	return derive.Same(t)
}

// body simplifies the body of an abstraction.
func (s *simplifier) body(t api.Term, v view) derive.Equation {
	x := api.Term{Op: api.Free, Name: term.Variant("x", slices.Concat(s.names, v.around)), Type: t.Type}
	s.Avoid(x)
	v.around = append(slices.Clone(v.around), x.Name)
	return s.Under(t, x, s.simplify(term.Put(t.Kids[0], x), v))
}

// byCongruence simplifies the arguments of a constant by a congruence rule; false, if this does not match.
func (s *simplifier) byCongruence(c congruence, t api.Term, v view) (derive.Equation, bool) {
	by := term.MaxIndex(t) + 1
	i, e := pattern.MatchIn(s.Base.Sign(), term.Raise(c.left, by), t)
	if e != api.OK {
		return derive.Equation{}, false
	}
	changed := false
	var premises []kernel.Theorem
	for _, p := range c.parts {
		x := term.Apply(i, term.Raise(c.xs[p.index], by))
		eq, premise := s.part(p, x, by, i, v)
		changed = changed || !term.Equal(eq.Left, eq.Right)
		premises = append(premises, premise)
		y := c.ys[p.index]
		i.Terms = append(slices.Clone(i.Terms), api.TermBind{Name: y.Name, Index: y.Num + by, To: eq.Right})
	}
	start := s.Normal(t)
	if !changed {
		return start, true
	}
	eq := derive.Stating(derive.Elim(c.Raised(by, i), premises...))
	return derive.Joined(s.Alike(t, eq.Left), eq), true
}

// part simplifies an argument with what is assumed, and returns the premise of the rule that states this.
func (s *simplifier) part(p part, x api.Term, by int, i api.Inst, v view) (derive.Equation, kernel.Theorem) {
	var raw []api.Term
	var forms []derive.Equation
	var more []*equation
	for _, a := range p.assumed {
		a = term.Apply(i, term.Raise(a, by))
		e := s.normal(a)
		raw, forms = append(raw, a), append(forms, e)
		more = append(more, s.assumptionEquations(e.Right)...)
	}
	v.equations = slices.Concat(more, v.equations)
	eq := s.simplify(x, v)
	t := s.Stated(eq)
	for _, f := range slices.Backward(forms) {
		t = derive.Discharge(t, f.Right)
	}
	for n, f := range forms {
		t = derive.Elim(t, derive.Changed(f, s.Assume(raw[n])))
	}
	return eq, derive.Discharge(t, raw...)
}

// assumptionEquations returns the equations of a proposition that is assumed; none, if it has schematic variables.
func (s *simplifier) assumptionEquations(a api.Term) []*equation {
	if len(variablesOf(a)) > 0 {
		return nil
	}
	var out []*equation
	for _, t := range (extractor{s.Prover, s.book}).equations(s.Assume(a)) {
		if q, ok := newEquation(s.Base, t); ok {
			out = append(out, q)
		}
	}
	return out
}

// Rewrite returns the theorem t == t' for the simplified term t'; assumptions are used as further equations.
func Rewrite(thy api.Theory, s Set, assumed []kernel.Theorem, t api.Term, depth, fuel int) (kernel.Theorem, api.Errno) {
	base, book, e := opened(thy)
	if e != api.OK {
		return kernel.Theorem{}, e
	}
	set, e := read(base, s)
	if e != api.OK {
		return kernel.Theorem{}, e
	}
	return rewriteOn(base, book, s, set, assumed, t, depth, fuel)
}

// rewriteOn is Rewrite in a theory and with a set that were checked.
func rewriteOn(base kernel.Base, book *hol.Book, s Set, set known, assumed []kernel.Theorem, t api.Term, depth, fuel int) (kernel.Theorem, api.Errno) {
	if len(assumed) > MaxRules {
		return kernel.Theorem{}, api.ErrCount
	}
	var first []*equation
	for _, a := range assumed {
		l, e := extracted(base, book, a)
		if e != api.OK {
			return kernel.Theorem{}, e
		}
		more, _ := each(base, l, newEquation)
		first = append(first, more...)
	}
	if _, e := base.Sign().Check(t); e != api.OK {
		return kernel.Theorem{}, e
	}
	if e := inRange(depth, fuel); e != api.OK {
		return kernel.Theorem{}, e
	}
	x := newSimplifier(base, book, set, s.names(assumed, t), fuel)
	v := view{equations: slices.Concat(first, set.equations), depth: depth}
	return derive.Proved(func() kernel.Theorem { return x.Stated(x.simplify(term.Copy(t), v)) })
}

// inRange returns the error of a depth or a fuel.
func inRange(depth, fuel int) api.Errno {
	if depth < 0 || depth > MaxDepth || fuel < 0 || fuel > MaxFuel {
		return api.ErrRange
	}
	return api.OK
}

// Simplify returns the theorem whose proposition is that of a theorem, simplified.
func Simplify(thy api.Theory, s Set, th kernel.Theorem, depth, fuel int) (kernel.Theorem, api.Errno) {
	base, book, e := opened(thy)
	if e != api.OK {
		return kernel.Theorem{}, e
	}
	t, e := moved(base, th)
	if e != api.OK {
		return kernel.Theorem{}, e
	}
	set, e := read(base, s)
	if e != api.OK {
		return kernel.Theorem{}, e
	}
	eq, e := rewriteOn(base, book, s, set, nil, t.Prop(), depth, fuel)
	if e != api.OK {
		return kernel.Theorem{}, e
	}
	return kernel.EqElim(eq, t)
}
