package unify

import (
	"fmt"
	"strconv"
	"strings"

	"triforium/api"
	"triforium/term"
	"triforium/types"
)

// The notation of terms in the tests: `%x:N. t`, applications with blanks, names of bound variables, constants of the theory small, `$x` a Free and `?F.1` a Var (the index 0 is not written).
// The types of variables, and those of constants at which they are no declared ones, stand in a list: "?F: N>N; $x: N; id: N>N". N is nat, P prop, L list, > right-associative.

// typ reads a type.
func typ(s string) api.Type {
	r := &source{rest: strings.ReplaceAll(s, " ", "")}
	t := r.typ()
	if r.rest != "" {
		panic("no type: " + s)
	}
	return t
}

type source struct {
	rest  string
	kinds map[string]api.Type
}

func (r *source) take(s string) bool {
	rest, ok := strings.CutPrefix(r.rest, s)
	r.rest = rest
	return ok
}

func (r *source) typ() api.Type {
	a := r.small()
	if r.take(">") {
		return types.Fun(a, r.typ())
	}
	return a
}

func (r *source) small() api.Type {
	switch {
	case r.take("("):
		t := r.typ()
		r.take(")")
		return t
	case r.take("N"):
		return api.Type{Op: api.TCon, Name: "nat"}
	case r.take("P"):
		return types.Prop()
	case r.take("L"):
		return api.Type{Op: api.TCon, Name: "list", Args: []api.Type{r.small()}}
	}
	end := strings.IndexAny(r.rest+">", ">);:.,")
	if r.take("?") {
		end = strings.IndexAny(r.rest+">", ">);:,")
	} else if r.rest == "" || r.rest[0] != '\'' {
		panic("no type at " + r.rest)
	}
	word := r.rest[:end]
	r.rest = r.rest[end:]
	word, sort, _ := strings.Cut(word, "{")
	var classes []string
	if sort != "" {
		classes = strings.Split(strings.TrimSuffix(sort, "}"), "+")
	}
	if word[0] == '\'' {
		return api.Type{Op: api.TFree, Name: word[1:], Sort: classes}
	}
	name, digits, _ := strings.Cut(word, ".")
	n, _ := strconv.Atoi(digits)
	return api.Type{Op: api.TVar, Name: name, Index: n, Sort: classes}
}

// of reads a term.
func of(kinds, s string) api.Term {
	r := &source{rest: s, kinds: map[string]api.Type{}}
	for _, k := range strings.Split(kinds, ";") {
		if name, t, ok := strings.Cut(k, ":"); ok {
			r.kinds[strings.TrimSpace(name)] = typ(t)
		}
	}
	t := r.term(nil)
	if r.rest != "" {
		panic(fmt.Sprintf("no term: %q, at %q", s, r.rest))
	}
	return t
}

func (r *source) term(around []string) api.Term {
	r.rest = strings.TrimLeft(r.rest, " ")
	if r.take("%") {
		name, rest, _ := strings.Cut(r.rest, ":")
		k, rest, _ := strings.Cut(rest, ". ")
		r.rest = rest
		return api.Term{Op: api.Abs, Name: name, Type: typ(k), Kids: []api.Term{r.term(append(around, name))}}
	}
	t := r.atom(around)
	for {
		r.rest = strings.TrimLeft(r.rest, " ")
		if r.rest == "" || r.rest[0] == ')' {
			return t
		}
		t = api.Term{Op: api.App, Kids: []api.Term{t, r.atom(around)}}
	}
}

func (r *source) atom(around []string) api.Term {
	if r.take("(") {
		t := r.term(around)
		if !r.take(")") {
			panic("no bracket at " + r.rest)
		}
		return t
	}
	end := strings.IndexAny(r.rest+" ", " )")
	word := r.rest[:end]
	r.rest = r.rest[end:]
	for i := len(around) - 1; i >= 0; i-- {
		if around[i] == word {
			return bound(len(around) - 1 - i)
		}
	}
	k, ok := r.kinds[word]
	if !ok {
		for _, c := range small().Consts {
			if c.Name == word {
				return api.Term{Op: api.Const, Name: word, Type: c.Type}
			}
		}
		panic("no type of " + word)
	}
	switch word[0] {
	case '$':
		return api.Term{Op: api.Free, Name: word[1:], Type: k}
	case '?':
		name, digits, _ := strings.Cut(word[1:], ".")
		n, _ := strconv.Atoi(digits)
		return api.Term{Op: api.Var, Name: name, Num: n, Type: k}
	}
	return api.Term{Op: api.Const, Name: word, Type: k}
}

// small has the classes c and d, nat (of c) and list (of d, if its argument is of c), and some constants.
func small() api.Theory {
	con := func(name, k string) api.ConstDecl { return api.ConstDecl{Name: name, Type: typ(k)} }
	return api.Theory{
		Name:    "T",
		Classes: []api.Class{{Name: "c"}, {Name: "d"}},
		Types:   []api.TypeDecl{{Name: "fun", Arity: 2}, {Name: "prop"}, {Name: "nat"}, {Name: "list", Arity: 1}},
		Arities: []api.Arity{{Type: "nat", Class: "c"}, {Type: "list", Class: "d", Sorts: [][]string{{"c"}}}},
		Consts: []api.ConstDecl{
			con("z", "N"), con("s", "N>N"), con("c", "N>N>N"), con("b", "(N>N)>N"), con("q", "(N>N>N)>N>N"),
			con("id", "?a>?a"), con("nil", "L?a"), con("cons", "?a>L?a>L?a"), con("eq", "?a>?a>P"), con("k", "?a{c}>?a{c}"), con("f", "?a{d}>?a{d}"),
		},
	}
}

func text(t api.Term) string {
	s, e := term.Text(t)
	if e != api.OK {
		return fmt.Sprint("error ", e, " ", t)
	}
	return s
}

func typeText(t api.Type) string {
	s, _ := types.Text(t)
	return s
}

// instText writes an instantiation.
func instText(i api.Inst) string {
	s := ""
	for _, b := range i.Types {
		s += fmt.Sprintf("%s.%d=%s ", b.Name, b.Index, typeText(b.To))
	}
	for _, b := range i.Terms {
		s += fmt.Sprintf("%s.%d=%s ", b.Name, b.Index, brief(b.To))
	}
	return strings.TrimSuffix(s, " ")
}

// brief writes a term without its types, but those of abstractions.
func brief(t api.Term) string {
	switch t.Op {
	case api.Bound:
		return "#" + strconv.Itoa(t.Num)
	case api.Abs:
		return "%" + t.Name + ":" + typeText(t.Type) + ". " + brief(t.Kids[0])
	case api.Var:
		return "?" + t.Name + "." + strconv.Itoa(t.Num)
	case api.Free:
		return "$" + t.Name
	case api.App:
		f, a := brief(t.Kids[0]), brief(t.Kids[1])
		if t.Kids[0].Op == api.Abs {
			f = "(" + f + ")"
		}
		if t.Kids[1].Op == api.App || t.Kids[1].Op == api.Abs {
			a = "(" + a + ")"
		}
		return f + " " + a
	}
	return t.Name
}
