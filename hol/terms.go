package hol

import (
	"triforium/api"
	"triforium/term"
	"triforium/types"
)

// constant returns a constant of HOL or Nat, with a type in the place of 'a.
func constant(name string, a api.Type) api.Term {
	t, _ := constType(name, a)
	return api.Term{Op: api.Const, Name: name, Type: t}
}

// applied returns a constant at a type, applied to terms.
func applied(name string, a api.Type, l ...api.Term) api.Term {
	return term.Apps(constant(name, a), l)
}

// isConst reports whether a term is a constant of HOL or Nat without variables in its type.
func isConst(t api.Term, name string) bool {
	return term.Equal(t, constant(name, api.Type{}))
}

// isApplied returns the argument of a term that is a constant applied to one.
func isApplied(t api.Term, name string) (api.Term, bool) {
	if t.Op != api.App || len(t.Kids) != 2 || !isConst(t.Kids[0], name) {
		return api.Term{}, false
	}
	return t.Kids[1], true
}

// Truth puts Trueprop ahead of a term of the type bool; Untruth takes it away.
func Truth(t api.Term) api.Term { return applied("Trueprop", api.Type{}, t) }

func Untruth(t api.Term) (api.Term, bool) {
	a, ok := isApplied(t, "Trueprop")
	return term.Copy(a), ok
}

func True() api.Term                 { return applied("True", api.Type{}) }
func False() api.Term                { return applied("False", api.Type{}) }
func Not(a api.Term) api.Term        { return applied("Not", api.Type{}, a) }
func And(a, b api.Term) api.Term     { return applied("And", api.Type{}, a, b) }
func Or(a, b api.Term) api.Term      { return applied("Or", api.Type{}, a, b) }
func Implies(a, b api.Term) api.Term { return applied("Implies", api.Type{}, a, b) }

// Equal is the equation of two terms of one type.
func Equal(a, b api.Term) (api.Term, api.Errno) {
	t, ok := oneType(a, b)
	if !ok {
		return api.Term{}, ErrTerm
	}
	return applied("Equal", t, a, b), api.OK
}

// oneType returns the type of two terms, if they have one.
func oneType(a, b api.Term) (api.Type, bool) {
	t, e := term.TypeOf(a)
	if e != api.OK {
		return api.Type{}, false
	}
	u, e := term.TypeOf(b)
	return t, e == api.OK && types.Equal(t, u)
}

// isBool reports whether a term is of the type bool.
func isBool(t api.Term) bool {
	typ, e := term.TypeOf(t)
	return e == api.OK && types.Equal(typ, BoolType())
}

// All, Ex and The bind a Free in a term; If chooses.
func All(x, t api.Term) (api.Term, api.Errno) { return binding("All", x, t) }
func Ex(x, t api.Term) (api.Term, api.Errno)  { return binding("Ex", x, t) }
func The(x, t api.Term) (api.Term, api.Errno) { return binding("The", x, t) }

// binding returns a constant applied to the abstraction of a term over a Free.
func binding(name string, x, t api.Term) (api.Term, api.Errno) {
	if x.Op != api.Free || !isBool(t) {
		return api.Term{}, ErrTerm
	}
	abs := api.Term{Op: api.Abs, Name: x.Name, Type: x.Type, Kids: []api.Term{term.Bind(x, t)}}
	return term.Copy(applied(name, x.Type, abs)), api.OK
}

func If(p, a, b api.Term) (api.Term, api.Errno) {
	t, ok := oneType(a, b)
	if !isBool(p) || !ok {
		return api.Term{}, ErrTerm
	}
	return applied("If", t, p, a, b), api.OK
}

// maxNumeral is the greatest number of which Numeral makes a term.
const maxNumeral = 90

// Numeral returns the term of a number from 0 on; Number the number of such a term.
func Numeral(n int) (api.Term, api.Errno) {
	if n < 0 || n > maxNumeral {
		return api.Term{}, api.ErrRange
	}
	t := constant("Zero", api.Type{})
	for range n {
		t = applied("Suc", api.Type{}, t)
	}
	return t, api.OK
}

func Number(t api.Term) (int, bool) {
	n := 0
	for {
		k, ok := isApplied(t, "Suc")
		if !ok {
			break
		}
		n++
		t = k
	}
	if !isConst(t, "Zero") {
		return 0, false
	}
	return n, true
}

// Connective takes a formula apart: the name of the connective at its head (True, False, Not, And, Or, Implies, or Equal of two formulas), and its arguments; no name, if it is another term. The parts share memory with the formula.
func Connective(t api.Term) (string, []api.Term) {
	var l []api.Term
	f := t
	for f.Op == api.App && len(f.Kids) == 2 && len(l) < 2 {
		l = append([]api.Term{f.Kids[1]}, l...)
		f = f.Kids[0]
	}
	args := -1
	switch f.Name {
	case "True", "False":
		args = 0
	case "Not":
		args = 1
	case "And", "Or", "Implies", "Equal":
		args = 2
	}
	if len(l) != args || !term.Equal(f, constant(f.Name, BoolType())) {
		return "", nil
	}
	return f.Name, l
}
