// Package theory is layer 4: theories as values. See shared/doc/04-theory.md.
package theory

import (
	"slices"

	"triforium/api"
	"triforium/sort"
	"triforium/term"
	"triforium/types"
)

// Codes of layer 4.
const (
	ErrDefine api.Errno = 60 // a definition that is not permitted
)

// Pure returns the theory of the framework.
func Pure() api.Theory {
	prop := types.Prop()
	a := api.Type{Op: api.TVar, Name: "a"}
	v := api.Term{Op: api.Var, Name: "A", Type: prop}
	return api.Theory{
		Name:  "Pure",
		Types: []api.TypeDecl{{Name: "fun", Arity: 2}, {Name: "prop"}},
		Consts: []api.ConstDecl{
			{Name: "imp", Type: types.Fun(prop, types.Fun(prop, prop))},
			{Name: "all", Type: types.Fun(types.Fun(a, prop), prop)},
			{Name: "eq", Type: types.Fun(a, types.Fun(a, prop))},
			{Name: "protect", Type: types.Fun(prop, prop)},
		},
		Axioms: []api.Axiom{{Name: "protect_def", Prop: equation(prop, term.Protect(v), v)}},
	}
}

// equation returns an `eq` of two terms of a type.
func equation(t api.Type, a, b api.Term) api.Term {
	eq := api.Term{Op: api.Const, Name: "eq", Type: types.Fun(t, types.Fun(t, types.Prop()))}
	return term.Apps(eq, []api.Term{a, b})
}

// must panics with an error, if it is one: so errors leave the functions of this package.
func must(e api.Errno) {
	if e != api.OK {
		panic(e)
	}
}

// errorOf returns the code with which a function was left.
func errorOf(r any) api.Errno {
	if e, ok := r.(api.Errno); ok {
		return e
	}
	return api.ErrTheory
}

// Check returns the error of a theory.
func Check(t api.Theory) api.Errno {
	_, e := Sign(t)
	return e
}

// Sign returns the signature of a theory, in new memory, or its error by Check.
func Sign(t api.Theory) (g term.Signature, err api.Errno) {
	defer func() {
		if r := recover(); r != nil {
			g, err = term.Signature{}, errorOf(r)
		}
	}()
	g, _ = checked(t)
	return g, api.OK
}

// checked returns the signature and the definitions of a right theory, and panics with the error of another one.
func checked(t api.Theory) (term.Signature, []definition) {
	if !sort.IsName(t.Name) {
		panic(api.ErrForm)
	}
	g, e := term.Sign(t)
	must(e)
	checkOracles(t.Oracles)
	if !Within(Pure(), t) {
		panic(api.ErrTheory)
	}
	l := checkAxioms(g, t.Axioms)
	fitTogether(l)
	return g, l
}

func checkOracles(l []string) {
	if len(l) > api.MaxItems {
		panic(api.ErrCount)
	}
	met := make(map[string]bool, len(l))
	for _, name := range l {
		if !sort.IsName(name) {
			panic(api.ErrForm)
		}
		if met[name] {
			panic(api.ErrDuplicate)
		}
		met[name] = true
	}
}

// checkAxioms returns the definitions among axioms that are right.
func checkAxioms(g term.Signature, l []api.Axiom) []definition {
	if len(l) > api.MaxItems {
		panic(api.ErrCount)
	}
	var out []definition
	met := make(map[string]bool, len(l))
	for _, x := range l {
		if !sort.IsName(x.Name) || x.Kind < api.Plain || x.Kind > api.TypeDef {
			panic(api.ErrForm)
		}
		if met[x.Name] {
			panic(api.ErrDuplicate)
		}
		met[x.Name] = true
		checkProp(g, x.Prop)
		if x.Kind == api.Defining {
			out = append(out, permitted(g, x.Prop))
		}
	}
	return out
}

// checkProp checks the proposition of an axiom.
func checkProp(g term.Signature, p api.Term) {
	t, e := g.Check(p)
	must(e)
	if !types.Equal(t, types.Prop()) {
		panic(api.ErrType)
	}
	for n := range term.Nodes(p) {
		if n.Op == api.Free || hasFree(n.Type) {
			panic(api.ErrForm)
		}
	}
}

// hasFree reports whether a type has a TFree.
func hasFree(t api.Type) bool {
	for n := range types.Nodes(t) {
		if n.Op == api.TFree {
			return true
		}
	}
	return false
}

// Const returns the type of a constant, Axiom an axiom of a theory.
func Const(t api.Theory, name string) (api.Type, bool) {
	for _, c := range t.Consts {
		if c.Name == name {
			return types.Copy(c.Type), true
		}
	}
	return api.Type{}, false
}

func Axiom(t api.Theory, name string) (api.Axiom, bool) {
	for _, x := range t.Axioms {
		if x.Name == name {
			return copyAxiom(x), true
		}
	}
	return api.Axiom{}, false
}

// Copy returns a theory in new memory.
func Copy(t api.Theory) api.Theory {
	return api.Theory{
		Name:    t.Name,
		Classes: copies(t.Classes, copyClass),
		Types:   slices.Clone(t.Types),
		Arities: copies(t.Arities, copyArity),
		Consts:  copies(t.Consts, copyConst),
		Axioms:  copies(t.Axioms, copyAxiom),
		Oracles: slices.Clone(t.Oracles),
	}
}

// copies returns what a function makes of all elements.
func copies[T any](l []T, f func(T) T) []T {
	out := slices.Clone(l)
	for i := range out {
		out[i] = f(out[i])
	}
	return out
}

func copyClass(c api.Class) api.Class {
	c.Supers = slices.Clone(c.Supers)
	return c
}

func copyArity(a api.Arity) api.Arity {
	a.Sorts = copies(a.Sorts, slices.Clone)
	return a
}

func copyConst(c api.ConstDecl) api.ConstDecl {
	c.Type = types.Copy(c.Type)
	return c
}

func copyAxiom(x api.Axiom) api.Axiom {
	x.Prop = term.Copy(x.Prop)
	return x
}
