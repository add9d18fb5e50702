package mixfix

import (
	"fmt"
	"strings"

	"triforium/api"
	"triforium/infer"
	"triforium/term"
	"triforium/theory"
	"triforium/types"
)

// of reads a type (types.Read); the empty text is the zero one.
func of(s string) api.Type {
	if s == "" {
		return api.Type{}
	}
	t, e := types.Read(s)
	if e != api.OK {
		panic("no type: " + s)
	}
	return t
}

// logic is Pure with propositional constants, numbers, lists and classes.
func logic() api.Theory {
	t, e := theory.Extend(theory.Pure(), "L", api.Theory{
		Classes: []api.Class{{Name: "c"}, {Name: "d"}},
		Types:   []api.TypeDecl{{Name: "bool"}, {Name: "nat"}, {Name: "list", Arity: 1}, {Name: "pair", Arity: 2}},
		Arities: []api.Arity{{Type: "nat", Class: "c"}},
		Consts: []api.ConstDecl{
			{Name: "Trueprop", Type: of("fun(bool, prop)")}, {Name: "Not", Type: of("fun(bool, bool)")}, {Name: "And", Type: of("fun(bool, fun(bool, bool))")}, {Name: "Or", Type: of("fun(bool, fun(bool, bool))")}, {Name: "Implies", Type: of("fun(bool, fun(bool, bool))")},
			{Name: "Equal", Type: of("fun(?a.0, fun(?a.0, bool))")}, {Name: "All", Type: of("fun(fun(?a.0, bool), bool)")}, {Name: "Ex", Type: of("fun(fun(?a.0, bool), bool)")}, {Name: "zero", Type: of("nat")}, {Name: "suc", Type: of("fun(nat, nat)")}, {Name: "plus", Type: of("fun(nat, fun(nat, nat))")}, {Name: "minus", Type: of("fun(nat, fun(nat, nat))")}, {Name: "le", Type: of("fun(nat, fun(nat, bool))")},
			{Name: "nil", Type: of("list(?a.0)")}, {Name: "cons", Type: of("fun(?a.0, fun(list(?a.0), list(?a.0)))")}, {Name: "if", Type: of("fun(bool, fun(?a.0, fun(?a.0, ?a.0)))")}, {Name: "when", Type: of("fun(bool, fun(?a.0, ?a.0))")}, {Name: "mk", Type: of("fun(?a.0, fun(?b.0, pair(?a.0, ?b.0)))")}, {Name: "least", Type: of("?a.0{c}")}, {Name: "id", Type: of("fun(?a.0, ?a.0)")},
		},
	})
	if e != api.OK {
		panic(e)
	}
	return t
}

func mix(c string, prio int, words string, prios ...int) Notation {
	return Notation{Const: c, Kind: Mixfix, Words: strings.Split(words, "_"), Prios: prios, Prio: prio}
}

func fix(c string, kind, prio int, word string) Notation {
	return Notation{Const: c, Kind: kind, Words: []string{word}, Prio: prio}
}

// signs has notations of the constants of logic, behind those of Pure.
func signs() []Notation {
	return append(Pure(),
		mix("Trueprop", 4, "|-_", 3), mix("Not", 40, "~_", 40), fix("And", Infixr, 35, "&"), fix("Or", Infixr, 30, "|"), fix("Implies", Infixr, 25, "-->"), fix("Equal", Infix, 50, "="), fix("All", Binder, 10, "ALL"), fix("Ex", Binder, 10, "EX"),
		fix("plus", Infixl, 65, "+"), fix("minus", Infixl, 65, "*"), fix("le", Infix, 50, "<="), mix("nil", 1000, "NIL"), mix("if", 10, "if_then_else_", 0, 0, 10), mix("when", 10, "if_then_", 0, 10),
	)
}

// raw writes a raw term: as term.Text, but without the types that are open, and `[t : T]` for a constraint.
func raw(t api.Term) string {
	own := ""
	if t.Type.Op != 0 {
		s, _ := types.Text(t.Type)
		own = ":" + s
	}
	switch t.Op {
	case api.Const:
		return t.Name + own
	case api.Free:
		return "$" + t.Name + own
	case api.Var:
		return fmt.Sprint("?", t.Name, ".", t.Num) + own
	case api.Bound:
		return fmt.Sprint("#", t.Num)
	case api.Abs:
		return "(\\" + t.Name + own + " . " + raw(t.Kids[0]) + ")"
	case infer.Constraint:
		return "[" + raw(t.Kids[0]) + " " + own + "]"
	}
	f, args := term.Spine(t)
	out := "(" + raw(f)
	for _, a := range args {
		out += " " + raw(a)
	}
	return out + ")"
}

func raws(l []api.Term) string {
	var out []string
	for _, t := range l {
		out = append(out, raw(t))
	}
	return strings.Join(out, " ; ")
}
