package checker

import (
	"slices"

	"triforium/api"
)

// The terms here are right, and have no loose Bounds where nothing else is said; what is built shares parts with what it is built of.

func app(f, a *api.Term) *api.Term {
	return &api.Term{Op: api.App, Kids: []api.Term{*f, *a}}
}

func constant(name string, t *api.Type) *api.Term {
	return &api.Term{Op: api.Const, Name: name, Type: *t}
}

func implication(a, b *api.Term) *api.Term {
	prop := &api.Type{Op: api.TCon, Name: "prop"}
	return app(app(constant("imp", fun(prop, fun(prop, prop))), a), b)
}

// equation returns the proposition that terms of a type are equal.
func equation(t *api.Type, a, b *api.Term) *api.Term {
	prop := &api.Type{Op: api.TCon, Name: "prop"}
	return app(app(constant("eq", fun(t, fun(t, prop))), a), b)
}

// all returns the proposition that one holds for all values of a Free.
func all(x, t *api.Term) *api.Term {
	prop := &api.Type{Op: api.TCon, Name: "prop"}
	return app(constant("all", fun(fun(&x.Type, prop), prop)), abstracted(x, t))
}

// operands returns the arguments of a constant that is applied to two.
func operands(t *api.Term, name string) (c, a, b *api.Term) {
	want(t.Op == api.App && t.Kids[0].Op == api.App)
	c = &t.Kids[0].Kids[0]
	want(c.Op == api.Const && c.Name == name)
	return c, &t.Kids[0].Kids[1], &t.Kids[1]
}

// premise returns the premise of an implication, and what it implies.
func premise(t *api.Term) (a, b *api.Term) {
	_, a, b = operands(t, "imp")
	return a, b
}

// sides returns the sides of an equation, and their type.
func sides(t *api.Term) (k *api.Type, a, b *api.Term) {
	c, a, b := operands(t, "eq")
	return &c.Type.Args[0], a, b
}

// isAll returns the abstraction to which `all` is applied.
func isAll(t *api.Term) (*api.Term, bool) {
	if t.Op != api.App || t.Kids[0].Op != api.Const || t.Kids[0].Name != "all" || t.Kids[1].Op != api.Abs {
		return nil, false
	}
	return &t.Kids[1], true
}

func hasFree(t *api.Term, name string) bool {
	if t.Op == api.Free && t.Name == name {
		return true
	}
	for i := range t.Kids {
		if hasFree(&t.Kids[i], name) {
			return true
		}
	}
	return false
}

// hasBound reports whether a term within some abstractions has the variable of the one around all of them.
func hasBound(t *api.Term, around int) bool {
	if t.Op == api.Bound {
		return t.Num == around
	}
	if t.Op == api.Abs {
		around++
	}
	for i := range t.Kids {
		if hasBound(&t.Kids[i], around) {
			return true
		}
	}
	return false
}

// abstracted returns the abstraction of a term over a Free.
func abstracted(x, t *api.Term) *api.Term {
	return &api.Term{Op: api.Abs, Name: x.Name, Type: x.Type, Kids: []api.Term{bound(x, t, 0)}}
}

func bound(x, t *api.Term, around int) api.Term {
	if t.Op == api.Free && compareTerms(x, t) == 0 {
		return api.Term{Op: api.Bound, Num: around}
	}
	if t.Op == api.Abs {
		around++
	}
	out := *t
	out.Kids = make([]api.Term, len(t.Kids))
	for i := range t.Kids {
		out.Kids[i] = bound(x, &t.Kids[i], around)
	}
	return out
}

// size is how many nodes a term has, and how many are within each other.
type size struct {
	nodes, depth int
}

func sizeOf(t *api.Term) size {
	s := size{1, 0}
	for i := range t.Kids {
		k := sizeOf(&t.Kids[i])
		s.nodes += k.nodes
		s.depth = max(s.depth, k.depth)
	}
	s.depth++
	return s
}

// checkSize leaves the checker, if a term, or a type in it, is too large.
func checkSize(t *api.Term) {
	checkSizeBelow(t, &limit{api.MaxTerm}, 1)
}

func checkSizeBelow(t *api.Term, l *limit, depth int) {
	l.meet(1, depth)
	checkTypeSize(&t.Type, &limit{api.MaxType}, 1)
	for i := range t.Kids {
		checkSizeBelow(&t.Kids[i], l, depth+1)
	}
}

func checkTypeSize(t *api.Type, l *limit, depth int) {
	l.meet(1, depth)
	for i := range t.Args {
		checkTypeSize(&t.Args[i], l, depth+1)
	}
}

// put returns the body of an abstraction with a term for its variable; it leaves the checker as soon as this is too large.
func put(body, a *api.Term) *api.Term {
	p := putter{a, sizeOf(a), limit{api.MaxTerm}}
	out := p.put(body, 0, 1)
	return &out
}

type putter struct {
	a    *api.Term
	size size
	left limit
}

func (p *putter) put(t *api.Term, around, depth int) api.Term {
	if t.Op == api.Bound && t.Num == around {
		p.left.meet(p.size.nodes, depth-1+p.size.depth)
		return *p.a
	}
	p.left.meet(1, depth)
	if t.Op == api.Abs {
		around++
	}
	out := *t
	out.Kids = make([]api.Term, len(t.Kids))
	for i := range t.Kids {
		out.Kids[i] = p.put(&t.Kids[i], around, depth+1)
	}
	return out
}

// instantiated returns what Instantiate makes of a theorem.
func (c checker) instantiated(inst *api.Inst, b fact) fact {
	want(len(inst.Types) <= maxBinds && len(inst.Terms) <= maxBinds)
	v := variables{}
	v.addFact(b)
	n := instance{map[variable]*api.Type{}, map[variable]*api.Term{}, map[variable]size{}}
	for i := range inst.Types {
		b := &inst.Types[i]
		k := variable{false, api.TVar, b.Name, b.Index}
		want(n.types[k] == nil)
		c.checkType(&b.To)
		old, ok := v[k]
		want(!ok || c.has(&b.To, old.sort))
		n.types[k] = &b.To
	}
	for i := range inst.Terms {
		b := &inst.Terms[i]
		k := variable{true, api.Var, b.Name, b.Index}
		want(n.terms[k] == nil)
		t := c.checkTerm(&b.To)
		old, ok := v[k]
		want(!ok || n.gives(old.typ, t))
		n.terms[k], n.sizes[k] = &b.To, sizeOf(&b.To)
	}
	out := fact{prop: n.whole(b.prop), oracles: b.oracles}
	for _, h := range b.hyps {
		out.hyps = append(out.hyps, n.whole(h))
	}
	slices.SortStableFunc(out.hyps, compareTerms)
	out.hyps = slices.CompactFunc(out.hyps, func(x, y *api.Term) bool { return compareTerms(x, y) == 0 })
	now := variables{}
	now.addFact(out)
	return out
}

// instance has what variables stand for.
type instance struct {
	types map[variable]*api.Type
	terms map[variable]*api.Term
	sizes map[variable]size // of terms
}

// gives reports whether the instance of a type is another one. It may be very large, and is not built.
func (n instance) gives(t, other *api.Type) bool {
	if to := n.types[variable{false, t.Op, t.Name, t.Index}]; to != nil {
		return compareTypes(to, other) == 0
	}
	if t.Op != api.TCon {
		return compareTypes(t, other) == 0
	}
	if other.Op != api.TCon || t.Name != other.Name {
		return false
	}
	for i := range t.Args {
		if !n.gives(&t.Args[i], &other.Args[i]) {
			return false
		}
	}
	return true
}

// whole returns the instance of a term; it leaves the checker as soon as this is too large.
func (n instance) whole(t *api.Term) *api.Term {
	out := n.term(t, &limit{api.MaxTerm}, 1)
	return &out
}

func (n instance) term(t *api.Term, left *limit, depth int) api.Term {
	k := variable{true, t.Op, t.Name, t.Num}
	if to := n.terms[k]; to != nil {
		left.meet(n.sizes[k].nodes, depth-1+n.sizes[k].depth)
		return *to
	}
	left.meet(1, depth)
	out := *t
	out.Type = n.typ(&t.Type, &limit{api.MaxType}, 1)
	out.Kids = make([]api.Term, len(t.Kids))
	for i := range t.Kids {
		out.Kids[i] = n.term(&t.Kids[i], left, depth+1)
	}
	return out
}

func (n instance) typ(t *api.Type, left *limit, depth int) api.Type {
	if to := n.types[variable{false, t.Op, t.Name, t.Index}]; to != nil {
		checkTypeSize(to, left, depth)
		return *to
	}
	left.meet(1, depth)
	out := *t
	out.Args = make([]api.Type, len(t.Args))
	for i := range t.Args {
		out.Args[i] = n.typ(&t.Args[i], left, depth+1)
	}
	return out
}
