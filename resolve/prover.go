package resolve

import (
	"slices"
	"strconv"

	"triforium/api"
	"triforium/kernel"
	"triforium/term"
)

// prover makes theorems by the kernel's rules; the first error of one of them leaves it.
type prover struct {
	base  kernel.Base
	taken map[string]bool // the names of Frees
	count int             // names that were made
}

func newProver(base kernel.Base, l []api.Term) *prover {
	p := &prover{base: base, taken: map[string]bool{}}
	for _, t := range l {
		for n := range term.Nodes(t) {
			if n.Op == api.Free {
				p.taken[n.Name] = true
			}
		}
	}
	return p
}

// must returns a theorem, or leaves with its error.
func must(t kernel.Theorem, e api.Errno) kernel.Theorem {
	if e != api.OK {
		panic(e)
	}
	return t
}

// proved returns the theorem that a function makes, or the error with which it leaves.
func proved(f func() kernel.Theorem) (t kernel.Theorem, err api.Errno) {
	defer func() {
		if r := recover(); r != nil {
			t, err = kernel.Theorem{}, errorOf(r)
		}
	}()
	return f(), api.OK
}

// errorOf returns the code with which a function was left.
func errorOf(r any) api.Errno {
	if e, ok := r.(api.Errno); ok {
		return e
	}
	return api.ErrFail
}

// fresh returns a new Free of a type, with a name, if this is one and new.
func (p *prover) fresh(name string, t api.Type) api.Term {
	for name == "" || p.taken[name] {
		p.count++
		name = "x_" + strconv.Itoa(p.count)
	}
	p.taken[name] = true
	return api.Term{Op: api.Free, Name: name, Type: t}
}

// moved returns a theorem in the theory.
func (p *prover) moved(t kernel.Theorem) kernel.Theorem {
	if t.Base() == p.base {
		return t
	}
	return must(p.base.Transfer(t))
}

func (p *prover) assume(t api.Term) kernel.Theorem { return must(p.base.Assume(t)) }

// elim returns what follows from a theorem by its first premises, which others state.
func elim(t kernel.Theorem, l ...kernel.Theorem) kernel.Theorem {
	for _, a := range l {
		t = must(kernel.ImpElim(t, a))
	}
	return t
}

// discharge returns a theorem with further premises.
func discharge(t kernel.Theorem, l ...api.Term) kernel.Theorem {
	for _, a := range slices.Backward(l) {
		t = must(kernel.ImpIntro(a, t))
	}
	return t
}

// special returns what a theorem says of some terms.
func special(t kernel.Theorem, l ...api.Term) kernel.Theorem {
	for _, a := range l {
		t = must(kernel.AllElim(a, t))
	}
	return t
}

// generally returns that a theorem holds for all values of some Frees.
func generally(t kernel.Theorem, l ...api.Term) kernel.Theorem {
	for _, x := range slices.Backward(l) {
		t = must(kernel.AllIntro(x, t))
	}
	return t
}

// equation is a theorem that two terms are equal; none, if they are the same.
type equation struct {
	theorem     kernel.Theorem
	left, right api.Term
}

func same(t api.Term) equation { return equation{kernel.Theorem{}, t, t} }

func (e equation) isSame() bool { return !e.theorem.Is() }

// stated returns the theorem, also of equal terms.
func (p *prover) stated(e equation) kernel.Theorem {
	if e.isSame() {
		return must(p.base.Reflexive(e.left))
	}
	return e.theorem
}

// joined returns that both ends of two equations are equal.
func joined(a, b equation) equation {
	if a.isSame() {
		return b
	}
	if b.isSame() {
		return a
	}
	return equation{must(kernel.Transitive(a.theorem, b.theorem)), a.left, b.right}
}

func turned(e equation) equation {
	if e.isSame() {
		return e
	}
	return equation{must(kernel.Symmetric(e.theorem)), e.right, e.left}
}

// applied returns that a function applied to an argument is equal to another one.
func (p *prover) applied(f, a equation) equation {
	left, right := app(f.left, a.left), app(f.right, a.right)
	if f.isSame() && a.isSame() {
		return same(left)
	}
	return equation{must(kernel.Combination(p.stated(f), p.stated(a))), left, right}
}

func app(f, a api.Term) api.Term {
	return api.Term{Op: api.App, Kids: []api.Term{f, a}}
}

// within returns that the abstractions of two equal terms over a Free are equal.
func within(x api.Term, e equation) equation {
	left := abstraction(x, term.Bind(x, e.left))
	if e.isSame() {
		return same(left)
	}
	return equation{must(kernel.Abstraction(x, e.theorem)), left, abstraction(x, term.Bind(x, e.right))}
}

// changed returns a theorem that states the other side of an equation, the left side of which it states.
func changed(e equation, t kernel.Theorem) kernel.Theorem {
	if e.isSame() {
		return t
	}
	return must(kernel.EqElim(e.theorem, t))
}

// hasRedex reports whether a term is not beta-normal.
func hasRedex(t *api.Term) bool {
	if t.Op == api.App && t.Kids[0].Op == api.Abs {
		return true
	}
	for i := range t.Kids {
		if hasRedex(&t.Kids[i]) {
			return true
		}
	}
	return false
}

// normal returns that a term is equal to its beta-normal form.
func (p *prover) normal(t api.Term) equation {
	if !hasRedex(&t) {
		return same(t)
	}
	e := p.headed(t)
	return joined(e, p.parts(e.right))
}

// headed makes beta steps at the head of a term, until there is no redex.
func (p *prover) headed(t api.Term) equation {
	if t.Op != api.App {
		return same(t)
	}
	e := p.applied(p.headed(t.Kids[0]), same(t.Kids[1]))
	f, a := e.right.Kids[0], e.right.Kids[1]
	if f.Op != api.Abs {
		return e
	}
	now := equation{must(p.base.Beta(e.right)), e.right, term.Put(f.Kids[0], a)}
	e = joined(e, now)
	return joined(e, p.headed(now.right))
}

// parts makes the parts of a term normal that has no redex at its head.
func (p *prover) parts(t api.Term) equation {
	switch {
	case !hasRedex(&t):
		return same(t)
	case t.Op == api.App:
		f := p.parts(t.Kids[0])
		return p.applied(f, p.normal(t.Kids[1]))
	case t.Op == api.Abs:
		x := p.fresh(t.Name, t.Type)
		return within(x, p.normal(term.Put(t.Kids[0], x)))
	}
	return same(t)
}

// etaEqual returns that two beta-normal terms are equal that are so but for eta.
func (p *prover) etaEqual(a, b api.Term) equation {
	switch {
	case term.Equal(a, b):
		return same(a)
	case a.Op == api.App && b.Op == api.App:
		f := p.etaEqual(a.Kids[0], b.Kids[0])
		return p.applied(f, p.etaEqual(a.Kids[1], b.Kids[1]))
	case a.Op == api.Abs && b.Op == api.Abs:
		x := p.fresh(a.Name, a.Type)
		return within(x, p.etaEqual(term.Put(a.Kids[0], x), term.Put(b.Kids[0], x)))
	case a.Op == api.Abs:
		return p.expanded(a, b)
	case b.Op == api.Abs:
		return turned(p.expanded(b, a))
	}
	panic(api.ErrFail)
}

// expanded returns that an abstraction is equal to another term.
func (p *prover) expanded(abs, t api.Term) equation {
	more := abstraction(api.Term{Name: abs.Name, Type: abs.Type}, app(term.Lift(t, 1), api.Term{Op: api.Bound}))
	last := equation{must(p.base.Eta(more)), more, t}
	return joined(p.etaEqual(abs, more), last)
}
