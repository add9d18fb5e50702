// Package derive proves theorems forwards, by the rules of the kernel. The layers that make theorems share it.
package derive

import (
	"slices"
	"strconv"

	"triforium/api"
	"triforium/kernel"
	"triforium/term"
)

// Must returns a theorem, or another value, or leaves with the error.
func Must[T any](t T, e api.Errno) T {
	if e != api.OK {
		panic(e)
	}
	return t
}

// Proved returns what a function makes, or the error with which it leaves.
func Proved[T any](f func() T) (out T, err api.Errno) {
	defer func() {
		if r := recover(); r != nil {
			var none T
			out, err = none, errorOf(r)
		}
	}()
	return f(), api.OK
}

// errorOf returns the code with which a function was left.
func errorOf(r any) api.Errno {
	if e, ok := r.(api.Errno); ok {
		return e
	}
	return api.ErrFail
}

// Prover makes theorems by the kernel's rules in one theory; the first error of one of them leaves it.
type Prover struct {
	Base  kernel.Base
	taken map[string]bool // the names of Frees
	count int             // names that were made
}

// New returns a prover whose new Frees have other names than those of some terms.
func New(base kernel.Base, l []api.Term) *Prover {
	p := &Prover{Base: base, taken: map[string]bool{}}
	for _, t := range l {
		p.Avoid(t)
	}
	return p
}

// Avoid takes the names of the Frees of a term from those that new ones may have.
func (p *Prover) Avoid(t api.Term) {
	for n := range term.Nodes(t) {
		if n.Op == api.Free {
			p.taken[n.Name] = true
		}
	}
}

// Fresh returns a new Free of a type, with a name, if this is one and new.
func (p *Prover) Fresh(name string, t api.Type) api.Term {
	for name == "" || p.taken[name] {
		p.count++
		name = "x_" + strconv.Itoa(p.count)
	}
	p.taken[name] = true
	return api.Term{Op: api.Free, Name: name, Type: t}
}

// Release gives the name of a Free back that stands nowhere any more.
func (p *Prover) Release(x api.Term) { delete(p.taken, x.Name) }

// Moved returns a theorem in the theory.
func (p *Prover) Moved(t kernel.Theorem) kernel.Theorem {
	if t.Base() == p.Base {
		return t
	}
	return Must(p.Base.Transfer(t))
}

// Assume returns A from the hypothesis A.
func (p *Prover) Assume(t api.Term) kernel.Theorem { return Must(p.Base.Assume(t)) }

// Elim returns what follows from a theorem by its first premises, which others state.
func Elim(t kernel.Theorem, l ...kernel.Theorem) kernel.Theorem {
	for _, a := range l {
		t = Must(kernel.ImpElim(t, a))
	}
	return t
}

// Discharge returns a theorem with further premises.
func Discharge(t kernel.Theorem, l ...api.Term) kernel.Theorem {
	for _, a := range slices.Backward(l) {
		t = Must(kernel.ImpIntro(a, t))
	}
	return t
}

// Special returns what a theorem says of some terms.
func Special(t kernel.Theorem, l ...api.Term) kernel.Theorem {
	for _, a := range l {
		t = Must(kernel.AllElim(a, t))
	}
	return t
}

// Generally returns that a theorem holds for all values of some Frees.
func Generally(t kernel.Theorem, l ...api.Term) kernel.Theorem {
	for _, x := range slices.Backward(l) {
		t = Must(kernel.AllIntro(x, t))
	}
	return t
}

// Permitted returns the equation that a function makes; false, if a kernel rule does not permit it. The error of a limit leaves.
func Permitted(f func() Equation) (Equation, bool) {
	e, err := Proved(f)
	switch err {
	case api.OK:
		return e, true
	case api.ErrCount, api.ErrDepth, api.ErrLarge, api.ErrRange, api.ErrFuel:
		panic(err)
	}
	return Equation{}, false
}

// Instance is kernel.Instantiate, but for binds without which the theorem stays the same.
func Instance(i api.Inst, t kernel.Theorem) kernel.Theorem {
	if len(i.Types) == 0 && len(i.Terms) == 0 {
		return t
	}
	return Must(kernel.Instantiate(i, t))
}

// App is an application, which shares memory with its parts.
func App(f, a api.Term) api.Term {
	return api.Term{Op: api.App, Kids: []api.Term{f, a}}
}

// Lambda is the abstraction of a term over a Free.
func Lambda(x, t api.Term) api.Term {
	return Abstraction(x, term.Bind(x, t))
}

// Abstraction is an abstraction with the name and the type of a variable; its body is given.
func Abstraction(x, body api.Term) api.Term {
	return api.Term{Op: api.Abs, Name: x.Name, Type: x.Type, Kids: []api.Term{body}}
}
