package theory

import (
	"slices"

	"triforium/api"
	"triforium/term"
	"triforium/types"
)

// definition is a permitted definition.
type definition struct {
	left, right api.Term // the constant, and what it is
	declared    api.Type // the type with which the constant is declared
	special     bool
	at          api.Type // of a special definition: what stands for the variable of the declared type
}

// permitted returns the definition that a right proposition is.
func permitted(g term.Signature, p api.Term) definition {
	left, right, ok := term.IsEq(p)
	if !ok || left.Op != api.Const || slices.Contains([]string{"imp", "all", "eq"}, left.Name) || len(term.Vars(right)) > 0 {
		panic(ErrDefine)
	}
	vars := types.Variables(left.Type)
	for _, v := range term.TypeVariables(right) {
		if !slices.ContainsFunc(vars, func(w api.Type) bool { return types.Equal(v, w) }) {
			panic(ErrDefine)
		}
	}
	declared, _ := g.Const(left.Name)
	d := definition{left: left, right: right, declared: declared}
	if types.Equal(left.Type, declared) {
		return d
	}
	if len(types.Variables(declared)) != 1 {
		panic(ErrDefine)
	}
	d.special, d.at = true, standing(declared, left.Type)
	if !isSpecial(d.at) {
		panic(ErrDefine)
	}
	return d
}

// standing returns what stands in an instance of a type for the variable of the type; the zero value for a type without one.
func standing(t, instance api.Type) api.Type {
	if t.Op == api.TVar {
		return instance
	}
	for i := range t.Args {
		if s := standing(t.Args[i], instance.Args[i]); s.Op != 0 {
			return s
		}
	}
	return api.Type{}
}

// isSpecial reports whether a type is a constructor of different TVars with the index 0.
func isSpecial(t api.Type) bool {
	if t.Op != api.TCon {
		return false
	}
	met := map[string]bool{}
	for _, a := range t.Args {
		if a.Op != api.TVar || a.Index != 0 || met[a.Name] {
			return false
		}
		met[a.Name] = true
	}
	return true
}

// meets reports whether a use of the constant has a type that has a common instance with the one that is defined, their variables apart.
// Of a definition at the declared type each use has one. A special one is at a constructor of different variables, which can stand for all arguments: it has one with each variable and with the same constructor, whatever its arguments are.
func (d definition) meets(use api.Type) bool {
	if !d.special {
		return true
	}
	s := standing(d.declared, use)
	return s.Op == api.TVar || s.Name == d.at.Name
}

// recurs reports whether a use of a constant in the right side is one of the constant that is defined, at an argument of the constructor.
func (d definition) recurs(use api.Term) bool {
	if !d.special || use.Name != d.left.Name {
		return false
	}
	s := standing(d.declared, use.Type)
	return slices.ContainsFunc(d.at.Args, func(a api.Type) bool { return types.Equal(a, s) })
}

func definitionKey(d definition) string { return d.left.Name }

// fitTogether panics, if two definitions have a common instance, or if they lead into a circle.
func fitTogether(l []definition) {
	at := places(l, definitionKey)
	for i, d := range l {
		for _, k := range at[d.left.Name] {
			if k != i && d.meets(l[k].left.Type) {
				panic(ErrDefine)
			}
		}
	}
	const onTheWay, done = 1, 2
	marks := make([]int, len(l))
	var walk func(int)
	walk = func(i int) {
		marks[i] = onTheWay
		for _, k := range leadsTo(l, at, l[i]) {
			if marks[k] == onTheWay {
				panic(ErrDefine)
			}
			if marks[k] != done {
				walk(k)
			}
		}
		marks[i] = done
	}
	for i := range l {
		if marks[i] != done {
			walk(i)
		}
	}
}

// leadsTo returns the indices of the definitions to which one leads, perhaps several times; at says where those of each constant are.
func leadsTo(l []definition, at map[string][]int, d definition) []int {
	var out []int
	for n := range term.Nodes(d.right) {
		if n.Op != api.Const || len(at[n.Name]) == 0 || d.recurs(n) {
			continue
		}
		for _, k := range at[n.Name] {
			if l[k].meets(n.Type) {
				out = append(out, k)
			}
		}
	}
	return out
}

// Define returns a theory with a further constant and its definition, which is an axiom with the constant's name and _def.
func Define(t api.Theory, name string, c string, rhs api.Term) (out api.Theory, err api.Errno) {
	defer func() {
		if r := recover(); r != nil {
			out, err = api.Theory{}, errorOf(r)
		}
	}()
	g, _ := checked(t)
	k := rightSide(g, rhs)
	more := api.Theory{
		Consts: []api.ConstDecl{{Name: c, Type: general(k)}},
		Axioms: []api.Axiom{defining(c+"_def", c, k, rhs)},
	}
	return extended(t, name, more), api.OK
}

// rightSide returns the type of the right side of a new definition.
func rightSide(g term.Signature, rhs api.Term) api.Type {
	k, e := g.Check(rhs)
	must(e)
	for n := range term.Nodes(rhs) {
		if n.Op == api.Free || n.Op == api.Var || types.MaxIndex(n.Type) >= 0 {
			panic(ErrDefine)
		}
	}
	return k
}

// defining returns the definition that a constant at a type is a term, where TFrees have become TVars.
func defining(name, c string, t api.Type, rhs api.Term) api.Axiom {
	k := general(t)
	return api.Axiom{Name: name, Kind: api.Defining, Prop: equation(k, api.Term{Op: api.Const, Name: c, Type: k}, generalTerm(rhs))}
}

// general returns a type with TVars of the index 0 for TFrees.
func general(t api.Type) api.Type {
	if t.Op == api.TFree {
		t.Op = api.TVar
	}
	t.Args = copies(t.Args, general)
	return t
}

func generalTerm(t api.Term) api.Term {
	t.Type = general(t.Type)
	t.Kids = copies(t.Kids, generalTerm)
	return t
}

// Overload returns a theory in which a constant that has no definition is defined at a type constructor.
func Overload(t api.Theory, name string, c string, at api.Type, rhs api.Term) (out api.Theory, err api.Errno) {
	defer func() {
		if r := recover(); r != nil {
			out, err = api.Theory{}, errorOf(r)
		}
	}()
	g, _ := checked(t)
	declared, ok := g.Const(c)
	if !ok {
		panic(api.ErrMissing)
	}
	vars := types.Variables(declared)
	if len(vars) != 1 {
		panic(ErrDefine)
	}
	must(types.CheckIn(g.Sorts(), at))
	k := rightSide(g, rhs)
	if !types.Equal(k, types.Apply([]api.TypeBind{{Name: vars[0].Name, Index: vars[0].Index, To: at}}, declared)) {
		panic(api.ErrType)
	}
	more := api.Theory{Axioms: []api.Axiom{defining(c+"_"+at.Name+"_def", c, k, rhs)}}
	out = extended(t, name, more)
	// a TFree of the name of the declared variable would be a definition at the declared type
	if at.Op != api.TCon {
		panic(ErrDefine)
	}
	return out, api.OK
}
