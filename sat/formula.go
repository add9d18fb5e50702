package sat

import (
	"slices"

	"triforium/api"
	"triforium/hol"
	"triforium/term"
	"triforium/types"
)

// encoder makes clauses of a formula: each part of it with a connective, but Not, has an atom of its own.
type encoder struct {
	terms   []api.Term // of the atoms
	own     int        // how many of them are those of the formula
	clauses []definition
}

// definition is a clause that says what the atom of a part means.
type definition struct {
	clause Clause
	part   api.Term
	rule   rule
}

// rule says what a clause says of a part, which has two parts itself: which of the three are false if it fails, and all others true. (A part without connectives has a clause of its own alone.)
type rule struct {
	whole, first, second sign
}

// sign is whether a part stands in a clause: 1, -1 as its negation, 0 if it does not.
type sign int

// tooLarge is what an encoder leaves with when there would be too many atoms or clauses.
type tooLarge struct{}

// Clauses returns clauses of a proposition of the theory HOL (type bool), over its atoms and auxiliary ones, that hold together just if it can hold; and its atoms.
func Clauses(t api.Term) ([]Clause, []api.Term, api.Errno) {
	x, e := encoded(t)
	if e != api.OK {
		return nil, nil, e
	}
	var atoms []api.Term
	for _, a := range x.terms[:x.own] {
		atoms = append(atoms, term.Copy(a))
	}
	return x.all(), atoms, api.OK
}

// all returns the clauses.
func (x *encoder) all() []Clause {
	var out []Clause
	for _, d := range x.clauses {
		out = append(out, d.clause)
	}
	return out
}

// encoded returns the clauses of a formula with what they mean; the last one says that the formula holds.
func encoded(t api.Term) (x *encoder, err api.Errno) {
	k, e := term.TypeOf(t)
	if e != api.OK {
		return nil, e
	}
	if !types.Equal(k, hol.BoolType()) {
		return nil, api.ErrType
	}
	defer func() {
		if _, ok := recover().(tooLarge); ok {
			x, err = nil, api.ErrLarge
		}
	}()
	x = &encoder{}
	x.findAtoms(t)
	x.own = len(x.terms)
	top := x.literal(t)
	x.put(definition{clause: Clause{int(top)}, part: t})
	return x, api.OK
}

// findAtoms gives the atoms of a formula their numbers.
func (x *encoder) findAtoms(t api.Term) {
	name, l := hol.Connective(t)
	if name == "" {
		x.number(t)
	}
	for _, a := range l {
		x.findAtoms(a)
	}
}

// index returns the atom of a part, 0 without one.
func (x *encoder) index(t api.Term) int {
	return slices.IndexFunc(x.terms, func(a api.Term) bool { return term.Equal(a, t) }) + 1
}

// number returns the atom of a part, which it makes if there is none.
func (x *encoder) number(t api.Term) int {
	if n := x.index(t); n > 0 {
		return n
	}
	if len(x.terms) >= MaxAtoms {
		panic(tooLarge{})
	}
	x.terms = append(x.terms, t)
	return len(x.terms)
}

// put adds a clause.
func (x *encoder) put(d definition) {
	if len(x.clauses) >= MaxClauses {
		panic(tooLarge{})
	}
	x.clauses = append(x.clauses, d)
}

// literal returns the literal of a formula, and adds the clauses that say what it means.
func (x *encoder) literal(t api.Term) literal {
	name, l := hol.Connective(t)
	if name == "Not" {
		return x.literal(l[0]).not()
	}
	if n := x.index(t); n > 0 || name == "" {
		return literal(n)
	}
	var parts []literal
	for _, a := range l {
		parts = append(parts, x.literal(a))
	}
	n := literal(x.number(t))
	for _, r := range meaning(name) {
		x.define(t, n, parts, r)
	}
	return n
}

// define adds the clause of a part that a rule says, unless it holds anyway.
func (x *encoder) define(t api.Term, n literal, parts []literal, r rule) {
	var c Clause
	add := func(l literal, s sign) bool {
		var ok bool
		if s != 0 {
			c, ok = joined(c, Clause{int(l) * int(s)}, atomOf)
		}
		return s == 0 || ok
	}
	if !add(n, r.whole) || len(parts) == 2 && !(add(parts[0], r.first) && add(parts[1], r.second)) {
		return
	}
	x.put(definition{c, t, r})
}

// meaning returns the clauses of a connective.
func meaning(name string) []rule {
	switch name {
	case "True":
		return []rule{{1, 0, 0}}
	case "False":
		return []rule{{-1, 0, 0}}
	case "And":
		return []rule{{-1, 1, 0}, {-1, 0, 1}, {1, -1, -1}}
	case "Or":
		return []rule{{1, -1, 0}, {1, 0, -1}, {-1, 1, 1}}
	case "Implies":
		return []rule{{1, 1, 0}, {1, 0, -1}, {-1, -1, 1}}
	}
	return []rule{{-1, -1, 1}, {-1, 1, -1}, {1, 1, 1}, {1, -1, -1}}
}
