package infer

import (
	"slices"

	"triforium/api"
	"triforium/term"
	"triforium/theory"
	"triforium/types"
)

// Pinned returns a raw term with as few constraints as its types need to be found again.
func Pinned(thy api.Theory, known []Known, t api.Term) (api.Term, api.Errno) {
	if _, e := term.Check(thy, t); e != api.OK {
		return api.Term{}, e
	}
	g, e := theory.Sign(thy)
	if e != api.OK {
		return api.Term{}, e
	}
	same, e := termIn(g, known, t, api.Type{})
	if e != api.OK {
		return api.Term{}, e
	}
	if !term.Equal(same, t) {
		return api.Term{}, api.ErrType
	}
	p := pinner{sign: g, known: known, raw: []api.Term{term.Copy(t)}}
	p.collect(&p.raw[0])
	return p.pinned(), api.OK
}

// pinner takes the types of a term away, one after the other.
type pinner struct {
	sign  term.Signature
	known []Known
	raw   []api.Term
	nodes []*api.Term // those that have types, in order
	want  []api.Type  // their types
}

// collect notes the nodes that have types.
func (p *pinner) collect(t *api.Term) {
	if hasType(*t) {
		p.nodes = append(p.nodes, t)
		p.want = append(p.want, t.Type)
	}
	for i := range t.Kids {
		p.collect(&t.Kids[i])
	}
}

func (p *pinner) pinned() api.Term {
	for i, n := range p.nodes {
		n.Type = api.Type{}
		if !p.isFound() {
			n.Type = p.want[i]
		}
	}
	return p.raw[0]
}

// isFound reports whether the types that the term has lost are found again. All its types are right, so nothing else can be wrong.
func (p *pinner) isFound() bool {
	l, e := find(p.sign, p.known, p.raw, []api.Type{{}})
	return e == api.OK && slices.EqualFunc(l, p.want, types.Equal)
}
