package kernel

import (
	"slices"

	"triforium/api"
	"triforium/term"
	"triforium/types"
)

const (
	maxBinds = 100     // of each kind, and names of each kind
	maxIndex = 1000000 // the greatest index of a schematic variable
)

func (c *call) instantiate() *sequent {
	want(len(c.Inst.Types) <= maxBinds && len(c.Inst.Terms) <= maxBinds, api.ErrCount)
	want(!twice(c.Inst.Types, typeBindKey) && !twice(c.Inst.Terms, termBindKey), api.ErrDuplicate)
	b := c.from[0]
	var v variables
	v.addSequent(b)
	c.checkTypeBinds(&v)
	n := instance{types: types.NewInstance(c.Inst.Types), terms: map[variable]size{}}
	c.checkTermBinds(&v, n)
	c.Inst = copyInst(c.Inst)
	for i := range b.hyps {
		n.check(&b.hyps[i])
	}
	n.check(&b.prop)
	hyps := copies(b.hyps, func(h api.Term) api.Term { return term.Apply(c.Inst, h) })
	slices.SortFunc(hyps, term.Compare)
	hyps = slices.CompactFunc(hyps, term.Equal)
	s := c.follows(hyps, term.Apply(c.Inst, b.prop))
	var now variables
	now.addSequent(s)
	now.check()
	return s
}

func typeBindKey(b api.TypeBind) variable { return variable{api.TVar, b.Name, b.Index} }

func termBindKey(b api.TermBind) variable { return variable{api.Var, b.Name, b.Index} }

// twice reports whether two elements of a list have one key.
func twice[T any, K comparable](l []T, key func(T) K) bool {
	met := make(map[K]bool, len(l))
	for _, x := range l {
		k := key(x)
		if met[k] {
			return true
		}
		met[k] = true
	}
	return false
}

// checkTypeBinds panics with the error of the first bind of a type that has one, for a theorem with some variables.
func (c *call) checkTypeBinds(v *variables) {
	g := c.base.sign.Sorts()
	for _, b := range c.Inst.Types {
		must(types.CheckIn(g, b.To))
		if sort, ok := v.sorts[typeBindKey(b)]; ok {
			want(types.HasSortIn(g, b.To, sort), api.ErrSort)
		}
	}
}

// checkTermBinds panics with the error of the first bind of a term that has one, and notes the sizes of the terms.
func (c *call) checkTermBinds(v *variables, n instance) {
	for _, b := range c.Inst.Terms {
		t, e := c.base.sign.Check(b.To)
		must(e)
		k := termBindKey(b)
		if old, ok := v.types[k]; ok {
			want(n.types.Gives(*old, t), api.ErrType)
		}
		nodes, depth := term.Size(b.To)
		n.terms[k] = size{nodes, depth}
	}
}

// size is what term.Size returns.
type size struct {
	nodes, depth int
}

// instance knows how large an instance of a term will be: it may be very much too large to be built.
type instance struct {
	types types.Instance
	terms map[variable]size
}

// check panics, if the instance of a term would be too large.
func (n instance) check(t *api.Term) {
	s := n.size(t)
	want(s.nodes <= api.MaxTerm && s.depth <= api.MaxDepth, api.ErrLarge)
}

// size returns the size of the instance of a term, or panics, if a type in it would be too large.
func (n instance) size(t *api.Term) size {
	if t.Op == api.Var {
		if s, ok := n.terms[termVariable(t)]; ok {
			return s
		}
	}
	want(sizeFits(n.types.Size(t.Type)), api.ErrLarge)
	s := size{nodes: 1}
	for i := range t.Kids {
		k := n.size(&t.Kids[i])
		s.nodes += k.nodes
		s.depth = max(s.depth, k.depth)
	}
	s.depth++
	return s
}

func (c *call) generalize() *sequent {
	want(c.Num >= 0 && c.Num <= maxIndex, api.ErrRange)
	want(len(c.TypeNames) <= maxBinds && len(c.TermNames) <= maxBinds, api.ErrCount)
	want(!twice(c.TypeNames, itself) && !twice(c.TermNames, itself), api.ErrDuplicate)
	g := generalizer{nameSet(c.TypeNames), nameSet(c.TermNames), c.Num}
	b := c.from[0]
	for i := range b.hyps {
		want(!someNode(&b.hyps[i], g.isFixed) && !someNode(&b.hyps[i], g.isTaken), api.ErrFail)
	}
	want(!someNode(&b.prop, g.isTaken), api.ErrFail)
	return c.states(g.term(b.prop))
}

func itself(s string) string { return s }

func nameSet(l []string) map[string]bool {
	m := make(map[string]bool, len(l))
	for _, s := range l {
		m[s] = true
	}
	return m
}

// generalizer makes fixed variables of some names schematic ones with an index.
type generalizer struct {
	types, terms map[string]bool
	index        int
}

// isFixed reports whether a node has one of the fixed variables, or type variables.
func (g generalizer) isFixed(t *api.Term) bool {
	return t.Op == api.Free && g.terms[t.Name] || someType(&t.Type, func(k *api.Type) bool {
		return k.Op == api.TFree && g.types[k.Name]
	})
}

// isTaken reports whether a node has one of the schematic ones that the fixed ones are to become.
func (g generalizer) isTaken(t *api.Term) bool {
	return t.Op == api.Var && t.Num == g.index && g.terms[t.Name] || someType(&t.Type, func(k *api.Type) bool {
		return k.Op == api.TVar && k.Index == g.index && g.types[k.Name]
	})
}

// someType reports whether a node of a type is as a function says.
func someType(t *api.Type, is func(*api.Type) bool) bool {
	if is(t) {
		return true
	}
	for i := range t.Args {
		if someType(&t.Args[i], is) {
			return true
		}
	}
	return false
}

func (g generalizer) term(t api.Term) api.Term {
	if t.Op == api.Free && g.terms[t.Name] {
		t.Op, t.Num = api.Var, g.index
	}
	t.Type = g.typ(t.Type)
	t.Kids = copies(t.Kids, g.term)
	return t
}

func (g generalizer) typ(t api.Type) api.Type {
	if t.Op == api.TFree && g.types[t.Name] {
		t.Op, t.Index = api.TVar, g.index
	}
	t.Args = copies(t.Args, g.typ)
	return t
}
