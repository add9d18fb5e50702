package mixfix

import (
	"triforium/api"
	"triforium/grammar"
)

// Symbols of the grammar.
const (
	termSymbol = "term"
	typeSymbol = "type"
)

// Kinds of tokens in the grammar.
const (
	idKind    = "id"
	varKind   = "var"
	tfreeKind = "tfree"
	tvarKind  = "tvar"
	numKind   = "num"
	strKind   = "str"
)

// The productions of terms and types, by their indices; notations follow from baseCount on.
const (
	termName = iota
	termVar
	termBrackets
	termApp
	termAbs
	termTyped
	idtsOne
	idtsMore
	idtName
	idtTyped
	typeFree
	typeFreeSorted
	typeVar
	typeVarSorted
	typeName
	typeBrackets
	typeApp
	typeApps
	typeFun
	typesOne
	typesMore
	sortOne
	sortNone
	sortSome
	idsOne
	idsMore
	baseCount
)

func word(s string) grammar.Item { return grammar.Item{Kind: grammar.Word, Text: s} }

func category(s string) grammar.Item { return grammar.Item{Kind: grammar.Category, Text: s} }

func symbol(s string, prio int) grammar.Item {
	return grammar.Item{Kind: grammar.Symbol, Text: s, Prio: prio}
}

// base returns the productions of terms and types.
func base() []grammar.Prod {
	var out []grammar.Prod
	add := func(left string, prio int, name string, items ...grammar.Item) {
		out = append(out, grammar.Prod{Left: left, Prio: prio, Name: name, Items: items})
	}
	id, tfree, tvar := category(idKind), category(tfreeKind), category(tvarKind)
	typ, types, sort, idts := symbol(typeSymbol, 0), symbol("types", 0), symbol("sort", 0), symbol("idts", 0)
	open, end, comma, colons := word("("), word(")"), word(","), word("::")
	add(termSymbol, 1000, "name", id)
	add(termSymbol, 1000, "var", category(varKind))
	add(termSymbol, 1000, "brackets", open, symbol(termSymbol, 0), end)
	add(termSymbol, 999, "app", symbol(termSymbol, 999), symbol(termSymbol, 1000))
	add(termSymbol, 3, "abs", word("%"), idts, word("."), symbol(termSymbol, 3))
	add(termSymbol, 3, "typed", symbol(termSymbol, 4), colons, typ)
	add("idts", 0, "one", symbol("idt", 0))
	add("idts", 0, "more", symbol("idt", 0), idts)
	add("idt", 0, "name", id)
	add("idt", 0, "typed", open, id, colons, typ, end)
	add(typeSymbol, 1000, "tfree", tfree)
	add(typeSymbol, 1000, "sorted", tfree, colons, sort)
	add(typeSymbol, 1000, "tvar", tvar)
	add(typeSymbol, 1000, "sorted", tvar, colons, sort)
	add(typeSymbol, 1000, "name", id)
	add(typeSymbol, 1000, "brackets", open, typ, end)
	add(typeSymbol, 999, "app", symbol(typeSymbol, 999), id)
	add(typeSymbol, 999, "apps", open, typ, comma, types, end, id)
	add(typeSymbol, 0, "fun", symbol(typeSymbol, 1), word("=>"), typ)
	add("types", 0, "one", typ)
	add("types", 0, "more", typ, comma, types)
	add("sort", 0, "one", id)
	add("sort", 0, "none", word("{"), word("}"))
	add("sort", 0, "some", word("{"), symbol("ids", 0), word("}"))
	add("ids", 0, "one", id)
	add("ids", 0, "more", id, comma, symbol("ids", 0))
	return out
}

// Grammar returns the productions of notations, and of terms.
func Grammar(l []Notation) ([]grammar.Prod, api.Errno) {
	if e := Check(l); e != api.OK {
		return nil, e
	}
	return productions(l), api.OK
}

// productions is Grammar of right notations.
func productions(l []Notation) []grammar.Prod {
	out := base()
	for _, n := range l {
		out = append(out, grammar.Prod{Left: termSymbol, Prio: n.Prio, Name: n.Const, Items: n.items()})
	}
	return out
}

// items returns the items of the production of a right notation.
func (n Notation) items() []grammar.Item {
	switch n.Kind {
	case Mixfix:
		var out []grammar.Item
		for i, w := range n.Words {
			if w != "" {
				out = append(out, word(w))
			}
			if i < len(n.Prios) {
				out = append(out, symbol(termSymbol, n.Prios[i]))
			}
		}
		return out
	case Binder:
		return []grammar.Item{word(n.Words[0]), symbol("idts", 0), word("."), symbol(termSymbol, n.Prio)}
	}
	left, right := n.sides()
	return []grammar.Item{symbol(termSymbol, left), word(n.Words[0]), symbol(termSymbol, right)}
}
