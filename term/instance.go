package term

import (
	"triforium/api"
	"triforium/types"
)

// Instance has an instantiation that is applied to many terms; it shares memory with it.
type Instance struct {
	types    types.Instance
	hasTypes bool
	terms    map[key]api.Term
	sizes    map[key]size // of the terms
}

// size is what Size returns.
type size struct {
	nodes, depth int
}

// NewInstance returns the instance of an instantiation, in which the first bind of a variable counts.
func NewInstance(i api.Inst) Instance {
	x := Instance{types: types.NewInstance(i.Types), hasTypes: len(i.Types) > 0}
	x.terms, x.sizes = make(map[key]api.Term, len(i.Terms)), make(map[key]size, len(i.Terms))
	for _, b := range i.Terms {
		k := key{api.Var, b.Name, b.Index}
		if _, ok := x.terms[k]; !ok {
			nodes, depth := Size(b.To)
			x.terms[k], x.sizes[k] = b.To, size{nodes, depth}
		}
	}
	return x
}

// change is the change of Apply.
func (x Instance) change(t api.Term, around int) (api.Term, bool) {
	if t.Op == api.Var {
		if to, ok := x.terms[keyOf(t)]; ok {
			return lift(to, around), true
		}
	}
	if x.hasTypes {
		t.Type = x.types.Apply(t.Type)
	}
	return t, false
}

// Apply gives schematic type variables types, and then schematic variables terms.
func Apply(i api.Inst, t api.Term) api.Term {
	return NewInstance(i).Apply(t)
}

// Apply is the function Apply with the instantiation.
func (x Instance) Apply(t api.Term) api.Term {
	return Copy(rewrite(t, 0, x.change))
}

// Size returns the size of what Apply would return: this may be very much too large to be built.
func (x Instance) Size(t api.Term) (nodes, depth int) {
	s := x.size(&t)
	return s.nodes, s.depth
}

func (x Instance) size(t *api.Term) size {
	if t.Op == api.Var {
		if s, ok := x.sizes[keyOf(*t)]; ok {
			return s
		}
	}
	s := size{nodes: 1}
	for i := range t.Kids {
		k := x.size(&t.Kids[i])
		s.nodes += k.nodes
		s.depth = max(s.depth, k.depth)
	}
	s.depth++
	return s
}

// TypesWithin reports whether no type that Apply would change, in what it would return, has more than some nodes, or is deeper than some number of them.
func (x Instance) TypesWithin(t api.Term, nodes, depth int) bool {
	if t.Op == api.Var {
		if _, ok := x.terms[keyOf(t)]; ok {
			return true
		}
	}
	if n, d := x.types.Size(t.Type); n > nodes || d > depth {
		return false
	}
	for _, k := range t.Kids {
		if !x.TypesWithin(k, nodes, depth) {
			return false
		}
	}
	return true
}
