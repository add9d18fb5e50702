package tableau

import (
	"triforium/api"
	"triforium/hol"
	"triforium/term"
	"triforium/types"
)

// parts returns the name of the constant at the head of a formula, and its arguments, if they are as many as this one takes in a formula; otherwise no name.
func parts(t api.Term) (string, []api.Term) {
	f := t
	var l []api.Term
	for f.Op == api.App && len(f.Kids) == 2 && len(l) < 3 {
		l = append([]api.Term{f.Kids[1]}, l...)
		f = f.Kids[0]
	}
	args := -1
	switch f.Name {
	case "True", "False":
		args = 0
	case "Not", "All", "Ex":
		args = 1
	case "And", "Or", "Implies", "Equal":
		args = 2
	}
	if f.Op != api.Const || len(l) != args {
		return "", nil
	}
	return f.Name, l
}

// isIff reports whether the constant at the head of an Equal is about formulas.
func isIff(t api.Term) bool {
	b := hol.BoolType()
	return types.Equal(t.Kids[0].Kids[0].Type, types.Fun(b, types.Fun(b, b)))
}

// Kind returns the kind of node that a formula wants (0 for an atom or its negation), and the formulas that it puts on branches: of Gamma and Delta the abstraction.
func Kind(t api.Term) (kind int, more []api.Term) {
	kind, more = kindOf(t)
	for i := range more {
		more[i] = term.Copy(more[i])
	}
	return kind, more
}

// kindOf is Kind, but its parts share memory with the formula.
func kindOf(t api.Term) (int, []api.Term) {
	name, l := parts(t)
	switch name {
	case "And":
		return Alpha, l
	case "Or":
		return Beta, l
	case "Implies":
		return Beta, []api.Term{hol.Not(l[0]), l[1]}
	case "Equal":
		if isIff(t) {
			return Beta, []api.Term{hol.And(l[0], l[1]), hol.And(hol.Not(l[0]), hol.Not(l[1]))}
		}
	case "All":
		return quantified(Gamma, l[0], false)
	case "Ex":
		return quantified(Delta, l[0], false)
	case "Not":
		return negationKind(l[0])
	}
	return 0, nil
}

// negationKind returns the kind of Not of a formula, and its parts.
func negationKind(t api.Term) (int, []api.Term) {
	name, l := parts(t)
	switch name {
	case "Not":
		return Twice, l
	case "Or":
		return Alpha, []api.Term{hol.Not(l[0]), hol.Not(l[1])}
	case "Implies":
		return Alpha, []api.Term{l[0], hol.Not(l[1])}
	case "And":
		return Beta, []api.Term{hol.Not(l[0]), hol.Not(l[1])}
	case "Equal":
		if isIff(t) {
			return Beta, []api.Term{hol.And(l[0], hol.Not(l[1])), hol.And(hol.Not(l[0]), l[1])}
		}
	case "Ex":
		return quantified(Gamma, l[0], true)
	case "All":
		return quantified(Delta, l[0], true)
	}
	return 0, nil
}

// quantified returns a kind with the abstraction that a set is, or that of its complement; 0, if its type is none of a set.
func quantified(kind int, f api.Term, negated bool) (int, []api.Term) {
	abs := f
	if f.Op != api.Abs || len(f.Kids) != 1 {
		k, e := term.TypeOf(f)
		if e != api.OK || !types.IsFun(k) || !types.Equal(k.Args[1], hol.BoolType()) {
			return 0, nil
		}
		body := api.Term{Op: api.App, Kids: []api.Term{term.Lift(f, 1), {Op: api.Bound}}}
		abs = api.Term{Op: api.Abs, Name: "x", Type: k.Args[0], Kids: []api.Term{body}}
	}
	if negated {
		abs = api.Term{Op: api.Abs, Name: abs.Name, Type: abs.Type, Kids: []api.Term{hol.Not(abs.Kids[0])}}
	}
	return kind, []api.Term{abs}
}
