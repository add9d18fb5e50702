package hol

import (
	"strings"

	"triforium/api"
	"triforium/term"
	"triforium/types"
)

// node is a proposition or a term as it was read: a word (without kids), `%` or `!!` of a bound variable (one kid), or an application, `==>` or `==` (two kids).
type node struct {
	word  string
	bound string
	kids  []node
}

const (
	apply  = " "
	lambda = "%"
	meta   = "!!"
	imp    = "==>"
	equals = "=="
)

// parsed reads a text in the notation of the rules, which is right.
func parsed(s string) node {
	tokens := strings.Fields(spaced(s))
	at := func() string {
		if len(tokens) == 0 {
			return ""
		}
		return tokens[0]
	}
	next := func() string {
		t := at()
		tokens = tokens[1:]
		return t
	}
	var whole func() node
	binder := func() node {
		kind, bound := next(), next()
		next()
		return node{word: kind, bound: bound, kids: []node{whole()}}
	}
	atom := func() node {
		if at() != "(" {
			return node{word: next()}
		}
		next()
		n := whole()
		next()
		return n
	}
	whole = func() node {
		if at() == lambda || at() == meta {
			return binder()
		}
		n := atom()
		for at() != "" && at() != ")" && at() != imp && at() != equals {
			n = node{word: apply, kids: []node{n, atom()}}
		}
		if at() == imp || at() == equals {
			n = node{word: next(), kids: []node{n, whole()}}
		}
		return n
	}
	return whole()
}

// spaced puts blanks around all marks.
func spaced(s string) string {
	for _, mark := range [...]string{"(", ")", ".", lambda, meta} {
		s = strings.ReplaceAll(s, mark, " "+mark+" ")
	}
	return s
}

// kinds are the types of the variables of a rule, whose names tell them but for those of predicates.
type kinds struct {
	a, b, element api.Type
	predicates    map[string]bool
}

// kindsOf returns the types of a rule's variables; element is the type on which its predicates are.
func kindsOf(n node, a, b, element api.Type) kinds {
	k := kinds{a, b, element, map[string]bool{}}
	k.find(n)
	return k
}

// find finds the variables that are predicates: those that are applied, and those that All, Ex or The take.
func (k kinds) find(n node) {
	if n.word == apply {
		f, x := n.kids[0].word, n.kids[1].word
		if f == "All" || f == "Ex" || f == "The" {
			k.predicates[x] = true
		}
		k.predicates[f] = true
	}
	for _, kid := range n.kids {
		k.find(kid)
	}
}

// typ returns the type of a variable.
func (k kinds) typ(name string) api.Type {
	switch name[0] {
	case 'P', 'Q', 'R':
		if k.predicates[name] {
			return types.Fun(k.element, BoolType())
		}
		return BoolType()
	case 'f', 'g':
		return types.Fun(k.a, k.b)
	case 'k', 'm', 'n', 'i':
		return NatType()
	}
	return k.a
}

// speller makes terms of what was read.
type speller struct {
	kinds
	variable func(name string, t api.Type) api.Term // a variable that is not bound
	bound    []api.Term                             // those around, the innermost one last
}

// proposition returns what was read as a proposition.
func (s *speller) proposition(n node) api.Term {
	t, typ := s.term(n)
	if typ.Name == "bool" {
		return Truth(t)
	}
	return t
}

// term returns a term, and its type.
func (s *speller) term(n node) (api.Term, api.Type) {
	switch n.word {
	case imp:
		a := s.proposition(n.kids[0])
		return term.Imp(a, s.proposition(n.kids[1])), types.Prop()
	case equals:
		a, t := s.term(n.kids[0])
		b, _ := s.term(n.kids[1])
		eq := api.Term{Op: api.Const, Name: "eq", Type: types.Fun(t, types.Fun(t, types.Prop()))}
		return term.Apps(eq, []api.Term{a, b}), types.Prop()
	case lambda, meta:
		return s.binding(n)
	case apply:
		return s.application(n)
	}
	return s.word(n.word)
}

// binding returns an abstraction, or `!!` of one.
func (s *speller) binding(n node) (api.Term, api.Type) {
	x := api.Term{Op: api.Abs, Name: n.bound, Type: s.typ(n.bound)}
	s.bound = append(s.bound, x)
	defer func() { s.bound = s.bound[:len(s.bound)-1] }()
	if n.word == lambda {
		body, t := s.term(n.kids[0])
		x.Kids = []api.Term{body}
		return x, types.Fun(x.Type, t)
	}
	x.Kids = []api.Term{s.proposition(n.kids[0])}
	prop := types.Prop()
	all := api.Term{Op: api.Const, Name: "all", Type: types.Fun(types.Fun(x.Type, prop), prop)}
	return term.Apps(all, []api.Term{x}), prop
}

// application returns an application, with the constant at its head at the type that its arguments tell.
func (s *speller) application(n node) (api.Term, api.Type) {
	var args []node
	for ; n.word == apply; n = n.kids[0] {
		args = append([]node{n.kids[1]}, args...)
	}
	var terms []api.Term
	var typs []api.Type
	for _, a := range args {
		t, typ := s.term(a)
		terms, typs = append(terms, t), append(typs, typ)
	}
	f, typ := s.term(n)
	if f.Op == api.Const {
		typ, _ = constType(f.Name, elementOf(f.Name, typs))
		f.Type = typ
	}
	for range args {
		typ = typ.Args[1]
	}
	return term.Apps(f, terms), typ
}

// elementOf returns the type 'a of a constant whose arguments have some types.
func elementOf(name string, args []api.Type) api.Type {
	switch name {
	case "All", "Ex", "The":
		return args[0].Args[0]
	case "If":
		return args[1]
	}
	return args[0]
}

// word returns a bound variable, a constant, or a variable.
func (s *speller) word(name string) (api.Term, api.Type) {
	for i := len(s.bound) - 1; i >= 0; i-- {
		if s.bound[i].Name == name {
			return api.Term{Op: api.Bound, Num: len(s.bound) - 1 - i}, s.bound[i].Type
		}
	}
	if t, ok := constType(name, s.a); ok {
		return api.Term{Op: api.Const, Name: name, Type: t}, t
	}
	t := s.typ(name)
	return s.variable(name, t), t
}

// schematic returns the proposition of a rule with schematic variables.
func schematic(s string, nat bool) api.Term {
	n := parsed(s)
	a := typeVariable("a")
	element := a
	if nat {
		element = NatType()
	}
	sp := &speller{kinds: kindsOf(n, a, typeVariable("b"), element)}
	sp.variable = func(name string, t api.Type) api.Term { return api.Term{Op: api.Var, Name: name, Type: t} }
	return sp.proposition(n)
}
