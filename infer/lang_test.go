package infer

import (
	"strings"

	"triforium/api"
	"triforium/term"
	"triforium/theory"
	"triforium/types"
)

// The notation of raw terms in the tests: constants by their names, `$x` a Free, `?x.1` a Var, `#0` a Bound, each perhaps with `:T` behind; `(\x:T . t)` or `(\x . t)`, `(f a b)`, and `[t : T]` a constraint.

type source struct{ types.Reader }

// raw reads a raw term.
func raw(s string) api.Term {
	r := &source{types.Reader{Rest: s}}
	t := r.term()
	if r.Rest != "" {
		panic("no raw term: " + s + " at " + r.Rest)
	}
	return t
}

func (r *source) must(s string) {
	if !r.Take(s) {
		panic("no " + s + " at " + r.Rest)
	}
}

func (r *source) has(s string) bool { return strings.HasPrefix(r.Rest, s) }

// typed reads the type behind a node, if there is one.
func (r *source) typed(t api.Term) api.Term {
	if r.has(":") {
		r.must(":")
		k, ok := r.Type()
		if !ok {
			panic("no type at " + r.Rest)
		}
		t.Type = k
	}
	return t
}

// name reads letters, digits and quotes.
func (r *source) name() string {
	n := strings.IndexAny(r.Rest+" ", " .:()[]#$?\\")
	s := r.Rest[:n]
	r.Rest = r.Rest[n:]
	return s
}

func (r *source) term() api.Term {
	switch {
	case r.has("["):
		r.must("[")
		t := r.term()
		r.must(" ")
		c := r.typed(api.Term{Op: Constraint, Kids: []api.Term{t}})
		r.must("]")
		return c
	case r.has("(\\"):
		r.must("(\\")
		t := r.typed(api.Term{Op: api.Abs, Name: r.name()})
		r.must(" . ")
		t.Kids = []api.Term{r.term()}
		r.must(")")
		return t
	case r.has("("):
		r.must("(")
		t := r.term()
		for r.has(" ") {
			r.must(" ")
			a := r.term()
			t = api.Term{Op: api.App, Kids: []api.Term{t, a}}
		}
		r.must(")")
		return t
	case r.has("#"):
		r.must("#")
		n, _ := r.Number()
		return api.Term{Op: api.Bound, Num: n}
	case r.has("$"):
		r.must("$")
		return r.typed(api.Term{Op: api.Free, Name: r.name()})
	case r.has("?"):
		r.must("?")
		t := api.Term{Op: api.Var, Name: r.name()}
		r.must(".")
		n := r.name()
		for _, d := range n {
			t.Num = 10*t.Num + int(d-'0')
		}
		return r.typed(t)
	}
	return r.typed(api.Term{Op: api.Const, Name: r.name()})
}

// show writes any raw term in the notation.
func show(t api.Term) string {
	own := ""
	if !isOpen(t.Type) {
		s, e := types.Text(t.Type)
		if e != api.OK {
			s = "!"
		}
		own = ":" + s
	}
	switch t.Op {
	case api.Const:
		return t.Name + own
	case api.Free:
		return "$" + t.Name + own
	case api.Var:
		return "?" + t.Name + "." + digits(t.Num) + own
	case api.Bound:
		return "#" + digits(t.Num)
	case api.Abs:
		return "(\\" + t.Name + own + " . " + show(t.Kids[0]) + ")"
	case Constraint:
		return "[" + show(t.Kids[0]) + " " + own + "]"
	}
	f, args := term.Spine(t)
	out := "(" + show(f)
	for _, a := range args {
		out += " " + show(a)
	}
	return out + ")"
}

func digits(n int) string {
	if n < 10 {
		return string(rune('0' + n))
	}
	return digits(n/10) + digits(n%10)
}

// of reads a type; the empty text is the zero one.
func of(s string) api.Type {
	if s == "" {
		return api.Type{}
	}
	r := types.Reader{Rest: s}
	t, ok := r.Type()
	if !ok || r.Rest != "" {
		panic("no type: " + s)
	}
	return t
}

func ofAll(l ...string) []api.Type {
	var out []api.Type
	for _, s := range l {
		out = append(out, of(s))
	}
	return out
}

// little is Pure with the classes c and d, e below both, the types nat (of c), bool, list (of c, of c, and of d, of c and d), and some constants.
func little() api.Theory {
	t, e := theory.Extend(theory.Pure(), "T", api.Theory{
		Classes: []api.Class{{Name: "c"}, {Name: "d"}, {Name: "e", Supers: []string{"c", "d"}}},
		Types:   []api.TypeDecl{{Name: "nat"}, {Name: "bool"}, {Name: "list", Arity: 1}, {Name: "pair", Arity: 2}},
		Arities: []api.Arity{{Type: "nat", Class: "c"}, {Type: "list", Class: "c", Sorts: [][]string{{"c"}}}, {Type: "list", Class: "d", Sorts: [][]string{{"c", "d"}}}},
		Consts: []api.ConstDecl{
			{Name: "zero", Type: of("nat")}, {Name: "suc", Type: of("fun(nat, nat)")}, {Name: "true", Type: of("bool")}, {Name: "nil", Type: of("list(?a.0)")}, {Name: "cons", Type: of("fun(?a.0, fun(list(?a.0), list(?a.0)))")},
			{Name: "id", Type: of("fun(?a.0, ?a.0)")}, {Name: "least", Type: of("?a.0{c}")}, {Name: "dee", Type: of("fun(?a.0{d}, bool)")}, {Name: "same", Type: of("fun(?a.0{c}, fun(?a.0{c}, prop))")}, {Name: "mk", Type: of("fun(?a.0, fun(?b.0, pair(?a.0, ?b.0)))")}, {Name: "any", Type: of("?b.0")},
		},
	})
	if e != api.OK {
		panic(e)
	}
	return t
}
