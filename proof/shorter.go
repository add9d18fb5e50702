package proof

import (
	"triforium/api"
	"triforium/term"
)

// Shorter returns a proof of the same, from which detours are removed.
func Shorter(p api.Proof) (api.Proof, api.Errno) {
	if e := Check(p); e != api.OK {
		return api.Proof{}, e
	}
	out := copied(&p)
	shorten(&out)
	return out, api.OK
}

// pattern is what the rules of Shorter see of a node: its kind, that of its only Kid, and of two Kids whether they are Reflexive.
type pattern struct {
	op, kid     int
	first, last bool
}

func patternOf(p *api.Proof) pattern {
	x := pattern{op: p.Op}
	switch len(p.Kids) {
	case 1:
		x.kid = p.Kids[0].Op
	case 2:
		x.first, x.last = p.Kids[0].Op == api.Reflexive, p.Kids[1].Op == api.Reflexive
	}
	return x
}

// shorten makes a proof shorter in its own memory, from the inside to the outside.
func shorten(p *api.Proof) {
	for i := range p.Kids {
		shorten(&p.Kids[i])
	}
	if isEmpty(p) {
		*p = p.Kids[0]
		return
	}
	switch patternOf(p) {
	case pattern{op: api.Symmetric, kid: api.Symmetric}:
		*p = p.Kids[0].Kids[0]
	case pattern{op: api.Symmetric, kid: api.Reflexive}:
		*p = p.Kids[0]
	case pattern{op: api.Transitive, first: true}, pattern{op: api.Transitive, first: true, last: true},
		pattern{op: api.EqElim, first: true}, pattern{op: api.EqElim, first: true, last: true}:
		*p = p.Kids[1]
	case pattern{op: api.Transitive, last: true}:
		*p = p.Kids[0]
	case pattern{op: api.Combination, first: true, last: true}:
		app := api.Term{Op: api.App, Kids: []api.Term{p.Kids[0].Term, p.Kids[1].Term}}
		*p = api.Proof{Op: api.Reflexive, Term: app}
	case pattern{op: api.Abstraction, kid: api.Reflexive}:
		shortenAbstraction(p)
	case pattern{op: api.AllElim, kid: api.AllIntro}:
		if p.Term.Op == api.Free && term.Equal(p.Term, p.Kids[0].Term) {
			*p = p.Kids[0].Kids[0]
		}
	}
}

// isEmpty reports whether a node instantiates, or generalizes, nothing.
func isEmpty(p *api.Proof) bool {
	switch p.Op {
	case api.Instantiate:
		return len(p.Inst.Types) == 0 && len(p.Inst.Terms) == 0
	case api.Generalize:
		return len(p.TypeNames) == 0 && len(p.TermNames) == 0
	}
	return false
}

// shortenAbstraction makes the Abstraction of a Reflexive shorter, if it is by a Free.
func shortenAbstraction(p *api.Proof) {
	x := p.Term
	if x.Op != api.Free {
		return
	}
	body := term.Bind(x, p.Kids[0].Term)
	abs := api.Term{Op: api.Abs, Name: x.Name, Type: x.Type, Kids: []api.Term{body}}
	*p = api.Proof{Op: api.Reflexive, Term: abs}
}
