package derive

import (
	"triforium/api"
	"triforium/kernel"
	"triforium/term"
)

// Equation is a theorem that two terms are equal; none, if they are the same.
type Equation struct {
	Theorem     kernel.Theorem
	Left, Right api.Term
}

// Same is the equation of a term with itself.
func Same(t api.Term) Equation { return Equation{kernel.Theorem{}, t, t} }

// Stating is the equation that a theorem states.
func Stating(t kernel.Theorem) Equation {
	a, b, ok := term.IsEq(t.Prop())
	if !ok {
		panic(api.ErrFail)
	}
	return Equation{t, a, b}
}

// IsSame reports whether there is no theorem, as both terms are the same.
func (e Equation) IsSame() bool { return !e.Theorem.Is() }

// Stated returns the theorem, also of equal terms.
func (p *Prover) Stated(e Equation) kernel.Theorem {
	if e.IsSame() {
		return Must(p.Base.Reflexive(e.Left))
	}
	return e.Theorem
}

// Joined returns that both ends of two equations are equal.
func Joined(a, b Equation) Equation {
	if a.IsSame() {
		return b
	}
	if b.IsSame() {
		return a
	}
	return Equation{Must(kernel.Transitive(a.Theorem, b.Theorem)), a.Left, b.Right}
}

// Turned returns the equation with its sides exchanged.
func Turned(e Equation) Equation {
	if e.IsSame() {
		return e
	}
	return Equation{Must(kernel.Symmetric(e.Theorem)), e.Right, e.Left}
}

// Applied returns that a function applied to an argument is equal to another one.
func (p *Prover) Applied(f, a Equation) Equation {
	left, right := App(f.Left, a.Left), App(f.Right, a.Right)
	if f.IsSame() && a.IsSame() {
		return Same(left)
	}
	return Equation{Must(kernel.Combination(p.Stated(f), p.Stated(a))), left, right}
}

// Within returns that the abstractions of two equal terms over a Free are equal.
func Within(x api.Term, e Equation) Equation {
	left := Lambda(x, e.Left)
	if e.IsSame() {
		return Same(left)
	}
	return Equation{Must(kernel.Abstraction(x, e.Theorem)), left, Lambda(x, e.Right)}
}

// Under returns that an abstraction is equal to what an equation makes of its body with a Free for its variable; its name stays.
func (p *Prover) Under(abs, x api.Term, e Equation) Equation {
	if e.IsSame() {
		return Same(abs)
	}
	e = Within(x, e)
	if abs.Name == x.Name {
		return e
	}
	// the right side of the second equation is that of both
	now := e.Right
	now.Name = abs.Name
	return Equation{Must(kernel.Transitive(e.Theorem, Must(p.Base.Reflexive(now)))), e.Left, now}
}

// Changed returns a theorem that states the other side of an equation, the left side of which it states.
func Changed(e Equation, t kernel.Theorem) kernel.Theorem {
	if e.IsSame() {
		return t
	}
	return Must(kernel.EqElim(e.Theorem, t))
}

// HasRedex reports whether a term is not beta-normal.
func HasRedex(t *api.Term) bool {
	if t.Op == api.App && t.Kids[0].Op == api.Abs {
		return true
	}
	for i := range t.Kids {
		if HasRedex(&t.Kids[i]) {
			return true
		}
	}
	return false
}

// Normalized returns a theorem whose proposition is in beta-normal form.
func (p *Prover) Normalized(t kernel.Theorem) kernel.Theorem {
	return Changed(p.Normal(t.Prop()), t)
}

// Normal returns that a term is equal to its beta-normal form.
func (p *Prover) Normal(t api.Term) Equation {
	if !HasRedex(&t) {
		return Same(t)
	}
	e := p.headed(t)
	return Joined(e, p.parts(e.Right))
}

// headed makes beta steps at the head of a term, until there is no redex.
func (p *Prover) headed(t api.Term) Equation {
	if t.Op != api.App {
		return Same(t)
	}
	e := p.Applied(p.headed(t.Kids[0]), Same(t.Kids[1]))
	f, a := e.Right.Kids[0], e.Right.Kids[1]
	if f.Op != api.Abs {
		return e
	}
	now := Equation{Must(p.Base.Beta(e.Right)), e.Right, term.Put(f.Kids[0], a)}
	e = Joined(e, now)
	return Joined(e, p.headed(now.Right))
}

// parts makes the parts of a term normal that has no redex at its head.
func (p *Prover) parts(t api.Term) Equation {
	switch {
	case !HasRedex(&t):
		return Same(t)
	case t.Op == api.App:
		f := p.parts(t.Kids[0])
		return p.Applied(f, p.Normal(t.Kids[1]))
	case t.Op == api.Abs:
		x := p.Fresh(t.Name, t.Type)
		return p.Under(t, x, p.Normal(term.Put(t.Kids[0], x)))
	}
	return Same(t)
}

// EtaEqual returns that two beta-normal terms are equal that are so but for eta.
func (p *Prover) EtaEqual(a, b api.Term) Equation {
	switch {
	case term.Equal(a, b):
		return Same(a)
	case a.Op == api.App && b.Op == api.App:
		f := p.EtaEqual(a.Kids[0], b.Kids[0])
		return p.Applied(f, p.EtaEqual(a.Kids[1], b.Kids[1]))
	case a.Op == api.Abs && b.Op == api.Abs:
		x := p.Fresh(a.Name, a.Type)
		return Within(x, p.EtaEqual(term.Put(a.Kids[0], x), term.Put(b.Kids[0], x)))
	case a.Op == api.Abs:
		return p.expanded(a, b)
	case b.Op == api.Abs:
		return Turned(p.expanded(b, a))
	}
	panic(api.ErrFail)
}

// expanded returns that an abstraction is equal to another term.
func (p *Prover) expanded(abs, t api.Term) Equation {
	more := Abstraction(api.Term{Name: abs.Name, Type: abs.Type}, App(term.Lift(t, 1), api.Term{Op: api.Bound}))
	last := Equation{Must(p.Base.Eta(more)), more, t}
	return Joined(p.EtaEqual(abs, more), last)
}
