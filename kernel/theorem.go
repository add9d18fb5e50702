// Package kernel is layer 6: theorems, and the rules that make them. See shared/doc/06-kernel.md.
package kernel

import (
	"slices"

	"triforium/api"
	"triforium/term"
	"triforium/theory"
	"triforium/types"
)

// Codes of layer 6.
const (
	ErrNone api.Errno = 80 // what is no theorem: the zero value
)

// Theorem is a theorem. The zero value is none; all others were made by the functions of this package.
type Theorem struct {
	s *sequent
}

// sequent is what a theorem states. It is never changed, so theorems share what they were made of; outside this package none of it is seen, but copies.
type sequent struct {
	base         *base
	hyps         []api.Term
	prop         api.Term
	oracles      []string
	proof        api.Proof
	nodes, depth int // of the proof
}

// Is reports whether it is a theorem.
func (t Theorem) Is() bool { return t.s != nil }

// Theory returns the theory of a theorem.
func (t Theorem) Theory() api.Theory { return t.Base().Theory() }

// Hyps returns the hypotheses, in order, each once.
func (t Theorem) Hyps() []api.Term {
	if t.s == nil {
		return nil
	}
	return copies(t.s.hyps, term.Copy)
}

// Prop returns the proposition.
func (t Theorem) Prop() api.Term {
	if t.s == nil {
		return api.Term{}
	}
	return term.Copy(t.s.prop)
}

// Oracles returns the names of the oracles that were used, ascending, each once.
func (t Theorem) Oracles() []string {
	if t.s == nil {
		return nil
	}
	return slices.Clone(t.s.oracles)
}

// Proof returns the proof.
func (t Theorem) Proof() api.Proof {
	if t.s == nil {
		return api.Proof{}
	}
	return copyProof(&t.s.proof)
}

// copies returns what a function makes of all elements.
func copies[T any](l []T, f func(T) T) []T {
	out := slices.Clone(l)
	for i := range out {
		out[i] = f(out[i])
	}
	return out
}

func copyProof(p *api.Proof) api.Proof {
	out := *p
	out.Term = term.Copy(p.Term)
	out.Inst = copyInst(p.Inst)
	out.TypeNames, out.TermNames = slices.Clone(p.TypeNames), slices.Clone(p.TermNames)
	out.Kids = slices.Clone(p.Kids)
	for i := range out.Kids {
		out.Kids[i] = copyProof(&p.Kids[i])
	}
	return out
}

func copyInst(i api.Inst) api.Inst {
	return api.Inst{Types: copies(i.Types, copyTypeBind), Terms: copies(i.Terms, copyTermBind)}
}

func copyTypeBind(b api.TypeBind) api.TypeBind {
	b.To = types.Copy(b.To)
	return b
}

func copyTermBind(b api.TermBind) api.TermBind {
	b.To = term.Copy(b.To)
	return b
}

// Base is a theory that was checked once. Who makes many theorems from nothing in one theory takes one, and its methods: they are the functions of their names, which take a theory.
// The zero value stands for the zero theory.
type Base struct {
	b *base
}

// base is a right theory with its signature; it is never changed.
type base struct {
	thy  api.Theory
	sign term.Signature
}

// On returns the base that is a theory: the error of theory.Check.
func On(thy api.Theory) (b Base, err api.Errno) {
	defer func() {
		if r := recover(); r != nil {
			b, err = Base{}, errorOf(r)
		}
	}()
	return Base{open(thy)}, api.OK
}

// Base returns the base that is the theory of a theorem.
func (t Theorem) Base() Base {
	if t.s == nil {
		return Base{}
	}
	return Base{t.s.base}
}

// Theory returns the theory.
func (b Base) Theory() api.Theory {
	if b.b == nil {
		return api.Theory{}
	}
	return theory.Copy(b.b.thy)
}

// Sign returns the signature of the theory.
func (b Base) Sign() term.Signature {
	if b.b == nil {
		return term.Signature{}
	}
	return b.b.sign
}

// Within reports whether the theory is within another one.
func (b Base) Within(o Base) bool {
	if b.b == nil || o.b == nil {
		return b.b == nil
	}
	return b.b == o.b || theory.Within(b.b.thy, o.b.thy)
}

// open returns the base that is a theory, or panics with its error.
func open(thy api.Theory) *base {
	g, e := theory.Sign(thy)
	must(e)
	return &base{theory.Copy(thy), g}
}

// opened returns the base, or panics with the error of the zero theory.
func (b Base) opened() *base {
	if b.b == nil {
		return open(api.Theory{})
	}
	return b.b
}

// joint returns the greater one of two theories.
func joint(a, b *base) *base {
	if a == b || theory.Within(a.thy, b.thy) {
		return b
	}
	if theory.Within(b.thy, a.thy) {
		return a
	}
	panic(api.ErrTheory)
}

// must panics with an error, if it is one: so errors leave the rules.
func must(e api.Errno) {
	if e != api.OK {
		panic(e)
	}
}

// want panics with a code, if something that is wanted is not there.
func want(ok bool, e api.Errno) {
	if !ok {
		panic(e)
	}
}

// errorOf returns the code with which a function was left.
func errorOf(r any) api.Errno {
	if e, ok := r.(api.Errno); ok {
		return e
	}
	return api.ErrFail
}
