package mixfix

import (
	"slices"

	"triforium/api"
	"triforium/grammar"
	"triforium/infer"
	"triforium/token"
	"triforium/types"
)

// reader makes raw terms and types of the trees of tokens.
type reader struct {
	l      []Notation
	tokens []token.Token
}

// bound is a variable of an abstraction: its name, and its type, or the zero one.
type bound struct {
	name string
	typ  api.Type
}

// text returns the text of a tree that is a token.
func (r *reader) text(t grammar.Tree) string { return r.tokens[t.Token].Text }

// term returns the raw term of a tree.
func (r *reader) term(t grammar.Tree) api.Term {
	var around []string
	var walk func(t grammar.Tree) api.Term
	// abstract returns abstractions over variables, each of which a function goes on with.
	var abstract func(l []bound, body grammar.Tree, then func(api.Term) api.Term) api.Term
	abstract = func(l []bound, body grammar.Tree, then func(api.Term) api.Term) api.Term {
		if len(l) == 0 {
			return walk(body)
		}
		around = append(around, l[0].name)
		inner := abstract(l[1:], body, then)
		around = around[:len(around)-1]
		return then(api.Term{Op: api.Abs, Name: l[0].name, Type: l[0].typ, Kids: []api.Term{inner}})
	}
	walk = func(t grammar.Tree) api.Term {
		switch t.Prod {
		case termName:
			return named(r.text(t.Kids[0]), around)
		case termVar:
			name, n, _ := indexed(r.tokens[t.Kids[0].Token])
			return api.Term{Op: api.Var, Name: name, Num: n}
		case termBrackets:
			return walk(t.Kids[0])
		case termApp:
			return apply(walk(t.Kids[0]), walk(t.Kids[1]))
		case termAbs:
			return abstract(r.variables(t.Kids[0]), t.Kids[1], func(a api.Term) api.Term { return a })
		case termTyped:
			return api.Term{Op: infer.Constraint, Type: r.typ(t.Kids[1]), Kids: []api.Term{walk(t.Kids[0])}}
		}
		n := r.l[t.Prod-baseCount]
		c := api.Term{Op: api.Const, Name: n.Const}
		if n.Kind == Binder {
			return abstract(r.variables(t.Kids[0]), t.Kids[1], func(a api.Term) api.Term { return apply(c, a) })
		}
		for _, k := range t.Kids {
			c = apply(c, walk(k))
		}
		return c
	}
	return walk(t)
}

func apply(f, a api.Term) api.Term {
	return api.Term{Op: api.App, Kids: []api.Term{f, a}}
}

// named returns the variable with a name: the innermost one around it, or a fixed one.
func named(name string, around []string) api.Term {
	for i, a := range slices.Backward(around) {
		if a == name {
			return api.Term{Op: api.Bound, Num: len(around) - 1 - i}
		}
	}
	return api.Term{Op: api.Free, Name: name}
}

// variables returns the variables of a tree of idts.
func (r *reader) variables(t grammar.Tree) []bound {
	var out []bound
	for {
		idt := t.Kids[0]
		v := bound{name: r.text(idt.Kids[0])}
		if idt.Prod == idtTyped {
			v.typ = r.typ(idt.Kids[1])
		}
		out = append(out, v)
		if t.Prod == idtsOne {
			return out
		}
		t = t.Kids[1]
	}
}

// typ returns the type of a tree.
func (r *reader) typ(t grammar.Tree) api.Type {
	switch t.Prod {
	case typeFree, typeFreeSorted:
		return api.Type{Op: api.TFree, Name: r.text(t.Kids[0])[1:], Sort: r.sort(t.Kids[1:])}
	case typeVar, typeVarSorted:
		name, n, _ := indexed(r.tokens[t.Kids[0].Token])
		return api.Type{Op: api.TVar, Name: name, Index: n, Sort: r.sort(t.Kids[1:])}
	case typeName:
		return api.Type{Op: api.TCon, Name: r.text(t.Kids[0])}
	case typeApp:
		return api.Type{Op: api.TCon, Name: r.text(t.Kids[1]), Args: []api.Type{r.typ(t.Kids[0])}}
	case typeApps:
		args := append([]api.Type{r.typ(t.Kids[0])}, r.types(t.Kids[1])...)
		return api.Type{Op: api.TCon, Name: r.text(t.Kids[2]), Args: args}
	case typeFun:
		return types.Fun(r.typ(t.Kids[0]), r.typ(t.Kids[1]))
	}
	return r.typ(t.Kids[0])
}

// types returns the types of a tree of several.
func (r *reader) types(t grammar.Tree) []api.Type {
	out := []api.Type{r.typ(t.Kids[0])}
	for t.Prod == typesMore {
		t = t.Kids[1]
		out = append(out, r.typ(t.Kids[0]))
	}
	return out
}

// sort returns the sort of a tree, if there is one: its classes ascending, each once.
func (r *reader) sort(l []grammar.Tree) []string {
	if len(l) == 0 || l[0].Prod == sortNone {
		return nil
	}
	t := l[0]
	if t.Prod == sortSome {
		t = t.Kids[0]
	}
	out := []string{r.text(t.Kids[0])}
	for t.Prod == idsMore {
		t = t.Kids[1]
		out = append(out, r.text(t.Kids[0]))
	}
	slices.Sort(out)
	return slices.Compact(out)
}
