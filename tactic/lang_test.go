package tactic

import (
	"fmt"
	"strconv"
	"strings"

	"triforium/api"
	"triforium/derive"
	"triforium/kernel"
	"triforium/term"
	"triforium/theory"
	"triforium/types"
)

// The notation of terms in the tests: `A ==> B`, `!!x:N. A`, `%x:N. t`, applications with blanks, names of bound variables, constants of the theory little, `$x` a Free and `?F.1` a Var (the index 0 is not written).
// The types of variables, and those of constants at which they are no declared ones, stand in a list: "?F: N>N; $x: N; id: N>N". N is nat, P prop, L list, > right-associative.

// typ reads a type.
func typ(s string) api.Type {
	r := &source{rest: strings.ReplaceAll(s, " ", "")}
	t := r.typ()
	if r.rest != "" {
		panic("no type: " + s)
	}
	return t
}

type source struct {
	rest  string
	kinds map[string]api.Type
}

func (r *source) take(s string) bool {
	rest, ok := strings.CutPrefix(r.rest, s)
	r.rest = rest
	return ok
}

func (r *source) typ() api.Type {
	a := r.little()
	if r.take(">") {
		return types.Fun(a, r.typ())
	}
	return a
}

func (r *source) little() api.Type {
	switch {
	case r.take("("):
		t := r.typ()
		r.take(")")
		return t
	case r.take("N"):
		return api.Type{Op: api.TCon, Name: "nat"}
	case r.take("P"):
		return types.Prop()
	case r.take("L"):
		return api.Type{Op: api.TCon, Name: "list", Args: []api.Type{r.little()}}
	}
	end := strings.IndexAny(r.rest+">", ">);:.,")
	if r.take("?") {
		end = strings.IndexAny(r.rest+">", ">);:,")
	} else if r.rest == "" || r.rest[0] != '\'' {
		panic("no type at " + r.rest)
	}
	word := r.rest[:end]
	r.rest = r.rest[end:]
	word, sort, _ := strings.Cut(word, "{")
	var classes []string
	if sort != "" {
		classes = strings.Split(strings.TrimSuffix(sort, "}"), "+")
	}
	if word[0] == '\'' {
		return api.Type{Op: api.TFree, Name: word[1:], Sort: classes}
	}
	name, digits, _ := strings.Cut(word, ".")
	n, _ := strconv.Atoi(digits)
	return api.Type{Op: api.TVar, Name: name, Index: n, Sort: classes}
}

// of reads a term.
func of(kinds, s string) api.Term {
	r := &source{rest: s, kinds: map[string]api.Type{}}
	r.read(kinds)
	t := r.term(nil)
	if r.rest != "" {
		panic(fmt.Sprintf("no term: %q, at %q", s, r.rest))
	}
	return t
}

// read reads the types of names.
func (r *source) read(kinds string) {
	for _, k := range strings.Split(kinds, ";") {
		if name, t, ok := strings.Cut(k, ":"); ok {
			r.kinds[strings.TrimSpace(name)] = typ(t)
		}
	}
}

func (r *source) blanks() { r.rest = strings.TrimLeft(r.rest, " ") }

func (r *source) term(around []string) api.Term {
	r.blanks()
	all := r.take("!!")
	if all || r.take("%") {
		name, rest, _ := strings.Cut(r.rest, ":")
		k, rest, _ := strings.Cut(rest, ". ")
		r.rest = rest
		t := api.Term{Op: api.Abs, Name: name, Type: typ(k), Kids: []api.Term{r.term(append(around, name))}}
		if all {
			return term.Apps(api.Term{Op: api.Const, Name: "all", Type: types.Fun(types.Fun(t.Type, types.Prop()), types.Prop())}, []api.Term{t})
		}
		return t
	}
	t := r.atom(around)
	for {
		r.blanks()
		if r.take("==>") {
			return term.Imp(t, r.term(around))
		}
		if r.rest == "" || r.rest[0] == ')' {
			return t
		}
		t = api.Term{Op: api.App, Kids: []api.Term{t, r.atom(around)}}
	}
}

func (r *source) atom(around []string) api.Term {
	if r.take("(") {
		t := r.term(around)
		if !r.take(")") {
			panic("no bracket at " + r.rest)
		}
		return t
	}
	end := strings.IndexAny(r.rest+" ", " )")
	word := r.rest[:end]
	r.rest = r.rest[end:]
	for i := len(around) - 1; i >= 0; i-- {
		if around[i] == word {
			return api.Term{Op: api.Bound, Num: len(around) - 1 - i}
		}
	}
	k, ok := r.kinds[word]
	if !ok {
		for _, c := range little().Consts {
			if c.Name == word {
				return api.Term{Op: api.Const, Name: word, Type: c.Type}
			}
		}
		panic("no type of " + word)
	}
	switch word[0] {
	case '$':
		return api.Term{Op: api.Free, Name: word[1:], Type: k}
	case '?':
		name, digits, _ := strings.Cut(word[1:], ".")
		n, _ := strconv.Atoi(digits)
		return api.Term{Op: api.Var, Name: name, Num: n, Type: k}
	}
	return api.Term{Op: api.Const, Name: strings.TrimSuffix(word, "'"), Type: k} // at another type
}

// little is Pure with the classes c and d, nat (of c) and list (of d, if its argument is of c), some constants, axioms and an oracle.
func little() api.Theory {
	con := func(name, k string) api.ConstDecl { return api.ConstDecl{Name: name, Type: typ(k)} }
	t := theory.Pure()
	t.Name = "Small"
	t.Classes = []api.Class{{Name: "c"}, {Name: "d"}}
	t.Types = append(t.Types, api.TypeDecl{Name: "nat"}, api.TypeDecl{Name: "list", Arity: 1})
	t.Arities = []api.Arity{{Type: "nat", Class: "c"}, {Type: "list", Class: "d", Sorts: [][]string{{"c"}}}}
	t.Consts = append(t.Consts,
		con("z", "N"), con("s", "N>N"), con("a", "N"), con("b", "N"), con("p", "N>P"), con("q", "N>P"), con("r", "N>N>P"), con("A", "P"), con("B", "P"), con("C", "P"), con("h", "(N>N)>P"),
		con("And", "P>P>P"), con("Ex", "(?a>P)>P"), con("All", "(?a>P)>P"), con("e", "?a>?a>P"), con("o", "?a{c}>P"), con("l", "?a{d}>P"),
	)
	t.Oracles = []string{"orc", "orc2"}
	return t
}

func text(t api.Term) string {
	s, e := term.Text(t)
	if e != api.OK {
		return fmt.Sprint("error ", e, " ", t)
	}
	return s
}

func typeText(t api.Type) string {
	s, _ := types.Text(t)
	return s
}

// stated returns a theorem that an oracle states, with hypotheses ahead of `|-`; without them there is no oracle needed for the rest: `A; B |- C`.
func stated(kinds, s string) kernel.Theorem {
	hyps, prop, ok := strings.Cut(s, "|-")
	if !ok {
		hyps, prop = "", s
	}
	t := derive.Must(kernel.Oracle(little(), "orc", of(kinds, strings.TrimSpace(prop))))
	for _, h := range strings.Split(hyps, ";") {
		if h = strings.TrimSpace(h); h != "" {
			a := of(kinds, h)
			t = derive.Must(kernel.ImpIntro(a, t))
			t = derive.Must(kernel.ImpElim(t, derive.Must(kernel.Assume(little(), a))))
		}
	}
	return t
}

// theoremText writes what a theorem states.
func theoremText(t kernel.Theorem) string {
	s := ""
	for i, h := range t.Hyps() {
		if i > 0 {
			s += "; "
		}
		s += brief(h)
	}
	if s != "" {
		s += " |- "
	}
	return s + brief(t.Prop())
}

// brief writes a term without its types, but those of abstractions.
func brief(t api.Term) string {
	switch t.Op {
	case api.Bound:
		return "#" + strconv.Itoa(t.Num)
	case api.Abs:
		return "%" + t.Name + ":" + typeText(t.Type) + ". " + brief(t.Kids[0])
	case api.Var:
		return "?" + t.Name + "." + strconv.Itoa(t.Num)
	case api.Free:
		return "$" + t.Name
	case api.App:
		if abs, ok := term.IsAll(t); ok {
			return "!!" + abs.Name + ":" + typeText(abs.Type) + ". " + brief(abs.Kids[0])
		}
		if a, b, ok := term.IsImp(t); ok {
			left := brief(a)
			if _, _, ok := term.IsImp(a); ok {
				left = "(" + left + ")"
			} else if _, ok := term.IsAll(a); ok {
				left = "(" + left + ")"
			}
			return left + " ==> " + brief(b)
		}
		f, a := brief(t.Kids[0]), brief(t.Kids[1])
		if t.Kids[0].Op == api.Abs {
			f = "(" + f + ")"
		}
		if t.Kids[1].Op == api.App || t.Kids[1].Op == api.Abs {
			a = "(" + a + ")"
		}
		return f + " " + a
	}
	return t.Name
}
