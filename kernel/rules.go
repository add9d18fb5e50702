package kernel

import (
	"slices"

	"triforium/api"
	"triforium/term"
	"triforium/theory"
	"triforium/types"
)

func (c *call) axiom() *sequent {
	x, ok := theory.Axiom(c.base.thy, c.Name)
	want(ok, api.ErrMissing)
	return c.states(x.Prop)
}

func (c *call) oracle() *sequent {
	want(slices.Contains(c.base.thy.Oracles, c.Name), api.ErrMissing)
	s := c.states(c.Term)
	s.oracles = []string{c.Name}
	return s
}

func (c *call) assume() *sequent {
	return c.follows([]api.Term{c.Term}, c.Term)
}

func (c *call) impIntro() *sequent {
	hyps := c.hyps()
	if i, ok := slices.BinarySearchFunc(hyps, c.Term, term.Compare); ok {
		hyps = slices.Delete(hyps, i, i+1)
	}
	return c.follows(hyps, implication(c.Term, c.from[0].prop))
}

func (c *call) impElim() *sequent {
	a, b := operands(&c.from[0].prop, "imp")
	want(a != nil && term.Equal(*a, c.from[1].prop), api.ErrFail)
	return c.states(*b)
}

func (c *call) allIntro() *sequent {
	want(c.Term.Op == api.Free, api.ErrForm)
	want(!c.inHyps(c.Term.Name), api.ErrFail)
	return c.states(generality(c.Term, c.from[0].prop))
}

func (c *call) allElim() *sequent {
	b := &c.from[0].prop
	all := b.Op == api.App && b.Kids[0].Op == api.Const && b.Kids[0].Name == "all" && b.Kids[1].Op == api.Abs
	want(all, api.ErrFail)
	abs := &b.Kids[1]
	want(types.Equal(abs.Type, c.typ), api.ErrType)
	return c.states(put(&abs.Kids[0], c.Term))
}

func (c *call) reflexive() *sequent {
	return c.states(equation(c.typ, c.Term, c.Term))
}

func (c *call) symmetric() *sequent {
	a, b, t := c.sides(0)
	return c.states(equation(t, b, a))
}

func (c *call) transitive() *sequent {
	a, b, t := c.sides(0)
	again, d, _ := c.sides(1)
	want(term.Equal(b, again), api.ErrFail)
	return c.states(equation(t, a, d))
}

func (c *call) combination() *sequent {
	f, g, function := c.sides(0)
	a, b, argument := c.sides(1)
	want(types.IsFun(function) && types.Equal(function.Args[0], argument), api.ErrType)
	return c.states(equation(function.Args[1], app(f, a), app(g, b)))
}

func (c *call) abstraction() *sequent {
	x := c.Term
	want(x.Op == api.Free, api.ErrForm)
	a, b, t := c.sides(0)
	want(!c.inHyps(x.Name), api.ErrFail)
	return c.states(equation(types.Fun(x.Type, t), abstract(x, a), abstract(x, b)))
}

func (c *call) beta() *sequent {
	t := c.Term
	want(t.Op == api.App && t.Kids[0].Op == api.Abs, api.ErrFail)
	return c.states(equation(c.typ, t, put(&t.Kids[0].Kids[0], t.Kids[1])))
}

func (c *call) eta() *sequent {
	t := c.Term
	want(t.Op == api.Abs && t.Kids[0].Op == api.App, api.ErrFail)
	f, a := t.Kids[0].Kids[0], t.Kids[0].Kids[1]
	want(a.Op == api.Bound && a.Num == 0 && !hasBound(&f, 0), api.ErrFail)
	return c.states(equation(c.typ, t, term.Lift(f, -1)))
}

func (c *call) eqIntro() *sequent {
	a, b := operands(&c.from[0].prop, "imp")
	b2, a2 := operands(&c.from[1].prop, "imp")
	want(a != nil && b2 != nil && term.Equal(*a, *a2) && term.Equal(*b, *b2), api.ErrFail)
	return c.states(equation(types.Prop(), *a, *b))
}

func (c *call) eqElim() *sequent {
	a, b, _ := c.sides(0)
	want(term.Equal(a, c.from[1].prop), api.ErrFail)
	return c.states(b)
}

// transfer states the theorem, with its own proof, in the theory that was given.
func (c *call) transfer() *sequent {
	s := *c.from[0]
	want(theory.Within(s.base.thy, c.base.thy), api.ErrTheory)
	s.base = c.base
	return &s
}

// operands returns the two arguments of a constant to which a proposition is applied, nil without them.
func operands(t *api.Term, name string) (a, b *api.Term) {
	if t.Op != api.App || t.Kids[0].Op != api.App {
		return nil, nil
	}
	f := &t.Kids[0]
	if f.Kids[0].Op != api.Const || f.Kids[0].Name != name {
		return nil, nil
	}
	return &f.Kids[1], &t.Kids[1]
}

// sides returns the sides of the equation that a theorem states, and their type.
func (c *call) sides(n int) (a, b api.Term, t api.Type) {
	prop := &c.from[n].prop
	x, y := operands(prop, "eq")
	want(x != nil, api.ErrFail)
	return *x, *y, prop.Kids[0].Kids[0].Type.Args[0]
}

// inHyps reports whether a hypothesis has a Free of a name.
func (c *call) inHyps(name string) bool {
	isIt := func(t *api.Term) bool { return t.Op == api.Free && t.Name == name }
	for _, s := range c.from {
		for i := range s.hyps {
			if someNode(&s.hyps[i], isIt) {
				return true
			}
		}
	}
	return false
}

// someNode reports whether a node of a term is as a function says.
func someNode(t *api.Term, is func(*api.Term) bool) bool {
	if is(t) {
		return true
	}
	for i := range t.Kids {
		if someNode(&t.Kids[i], is) {
			return true
		}
	}
	return false
}

func app(f, a api.Term) api.Term {
	return api.Term{Op: api.App, Kids: []api.Term{f, a}}
}

// The terms of theorems are never changed, so what is built of them shares their memory.

func implication(a, b api.Term) api.Term {
	prop := types.Prop()
	imp := api.Term{Op: api.Const, Name: "imp", Type: types.Fun(prop, types.Fun(prop, prop))}
	return app(app(imp, a), b)
}

// generality returns the proposition that one holds for all values of a Free.
func generality(x, t api.Term) api.Term {
	prop := types.Prop()
	all := api.Term{Op: api.Const, Name: "all", Type: types.Fun(types.Fun(x.Type, prop), prop)}
	return app(all, abstract(x, t))
}

// abstract returns the abstraction of a term over a Free.
func abstract(x, t api.Term) api.Term {
	return api.Term{Op: api.Abs, Name: x.Name, Type: x.Type, Kids: []api.Term{term.Bind(x, t)}}
}

// equation returns the proposition that two terms of a type are equal.
func equation(t api.Type, a, b api.Term) api.Term {
	eq := api.Term{Op: api.Const, Name: "eq", Type: types.Fun(t, types.Fun(t, types.Prop()))}
	return app(app(eq, a), b)
}

// put is term.Put, or panics, if the result would be too large: it may be very much so, and is not built then.
func put(body *api.Term, a api.Term) api.Term {
	nodes, depth := term.Size(a)
	nodes, depth = putSize(body, 0, nodes, depth)
	want(nodes <= api.MaxTerm && depth <= api.MaxDepth, api.ErrLarge)
	return term.Put(*body, a)
}

// putSize returns the size of a term within some abstractions, in which a term of a size stands for the variable of the one around all of them.
func putSize(t *api.Term, around, nodes, depth int) (int, int) {
	if t.Op == api.Bound && t.Num == around {
		return nodes, depth
	}
	if t.Op == api.Abs {
		around++
	}
	count, deepest := 1, 0
	for i := range t.Kids {
		n, d := putSize(&t.Kids[i], around, nodes, depth)
		count += n
		deepest = max(deepest, d)
	}
	return count, deepest + 1
}

// hasBound reports whether a term within some abstractions has the variable of the one around all of them.
func hasBound(t *api.Term, around int) bool {
	if t.Op == api.Bound && t.Num == around {
		return true
	}
	if t.Op == api.Abs {
		around++
	}
	for i := range t.Kids {
		if hasBound(&t.Kids[i], around) {
			return true
		}
	}
	return false
}
