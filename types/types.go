// Package types is layer 2: types. See shared/doc/02-types.md.
package types

import (
	"cmp"
	"iter"
	"slices"

	"triforium/api"
)

// Codes of layer 2.
const (
	ErrOccurs api.Errno = 40 // a variable in its own type
)

// Fun returns the type of functions, Prop that of propositions.
func Fun(a, b api.Type) api.Type {
	return api.Type{Op: api.TCon, Name: "fun", Args: []api.Type{Copy(a), Copy(b)}}
}

func Prop() api.Type {
	return api.Type{Op: api.TCon, Name: "prop"}
}

// IsFun reports whether a type is one that Fun makes, and so has two Args.
func IsFun(t api.Type) bool {
	return t.Op == api.TCon && t.Name == "fun" && len(t.Args) == 2 && t.Index == 0 && len(t.Sort) == 0
}

// Strip returns the types of the arguments of a function type, and its result.
func Strip(t api.Type) ([]api.Type, api.Type) {
	var args []api.Type
	for IsFun(t) {
		args = append(args, Copy(t.Args[0]))
		t = t.Args[1]
	}
	return args, Copy(t)
}

// Copy returns a type in new memory.
func Copy(t api.Type) api.Type {
	return eachArg(t, Copy)
}

// eachArg returns a node in new memory, whose Args are what a function makes of them.
func eachArg(t api.Type, f func(api.Type) api.Type) api.Type {
	t.Sort = slices.Clone(t.Sort)
	args := slices.Clone(t.Args)
	for i := range args {
		args[i] = f(args[i])
	}
	t.Args = args
	return t
}

// Nodes yields the nodes of a type, each one ahead of its Args. They are parts of it, not copies: who keeps one copies it.
func Nodes(t api.Type) iter.Seq[api.Type] {
	return func(yield func(api.Type) bool) {
		visit(t, yield)
	}
}

func visit(t api.Type, yield func(api.Type) bool) bool {
	if !yield(t) {
		return false
	}
	for _, a := range t.Args {
		if !visit(a, yield) {
			return false
		}
	}
	return true
}

// Size returns the number of nodes of a type, and its depth.
func Size(t api.Type) (nodes, depth int) {
	nodes = 1
	for _, a := range t.Args {
		n, d := Size(a)
		nodes += n
		depth = max(depth, d)
	}
	return nodes, depth + 1
}

// Equal reports whether types are equal; Compare orders them.
func Equal(a, b api.Type) bool {
	return equal(&a, &b)
}

// equal takes pointers, as it is asked very often, and types are large values.
func equal(a, b *api.Type) bool {
	if a.Op != b.Op || a.Name != b.Name || a.Index != b.Index || len(a.Args) != len(b.Args) || !slices.Equal(a.Sort, b.Sort) {
		return false
	}
	for i := range a.Args {
		if !equal(&a.Args[i], &b.Args[i]) {
			return false
		}
	}
	return true
}

func Compare(a, b api.Type) int {
	own := cmp.Or(cmp.Compare(a.Op, b.Op), cmp.Compare(a.Name, b.Name), cmp.Compare(a.Index, b.Index), slices.Compare(a.Sort, b.Sort))
	if own != 0 {
		return own
	}
	return slices.CompareFunc(a.Args, b.Args, Compare)
}

// key is what tells a variable from others, but for its sort.
type key struct {
	op    int
	name  string
	index int
}

func keyOf(t api.Type) key {
	return key{t.Op, t.Name, t.Index}
}

func isVariable(t api.Type) bool {
	return t.Op == api.TFree || t.Op == api.TVar
}

// Variables returns the variables of a type, each once, in the order in which they occur.
func Variables(t api.Type) []api.Type {
	var out []api.Type
	var met map[key][]int // where the variables of a key stand in out: they may differ in their sorts
	for n := range Nodes(t) {
		if !isVariable(n) {
			continue
		}
		if met == nil {
			met = map[key][]int{}
		}
		k := keyOf(n)
		same := func(i int) bool { return slices.Equal(out[i].Sort, n.Sort) }
		if !slices.ContainsFunc(met[k], same) {
			met[k] = append(met[k], len(out))
			out = append(out, api.Type{Op: n.Op, Name: n.Name, Index: n.Index, Sort: slices.Clone(n.Sort)})
		}
	}
	return out
}

// MaxIndex returns the greatest index of schematic variables, -1 without one.
func MaxIndex(t api.Type) int {
	most, found := -1, false
	for n := range Nodes(t) {
		if n.Op == api.TVar && (!found || n.Index > most) {
			most, found = n.Index, true
		}
	}
	return most
}

// replace returns a type in new memory, in which nodes are what a function gives for them; for those for which it gives none their Args are replaced.
func replace(t api.Type, f func(api.Type) (api.Type, bool)) api.Type {
	if n, ok := f(t); ok {
		return n
	}
	return eachArg(t, func(a api.Type) api.Type { return replace(a, f) })
}

// Apply gives schematic variables types.
func Apply(l []api.TypeBind, t api.Type) api.Type {
	return replace(t, newBinds(l).copied)
}

// Raise adds a number to the indices of schematic variables; MaxIndex returns the greatest one, -1 without one.
func Raise(t api.Type, n int) api.Type {
	if t.Op == api.TVar {
		t.Index += n
	}
	return eachArg(t, func(a api.Type) api.Type { return Raise(a, n) })
}

// binds has the types of schematic variables.
type binds map[key]api.Type

// newBinds returns the first bind of each variable.
func newBinds(l []api.TypeBind) binds {
	b := make(binds, len(l))
	for _, x := range l {
		k := key{api.TVar, x.Name, x.Index}
		if _, ok := b[k]; !ok {
			b[k] = x.To
		}
	}
	return b
}

// find returns what a node is bound to.
func (b binds) find(t api.Type) (api.Type, bool) {
	if t.Op != api.TVar {
		return api.Type{}, false
	}
	to, ok := b[keyOf(t)]
	return to, ok
}

// copied is find, in new memory.
func (b binds) copied(t api.Type) (api.Type, bool) {
	to, ok := b.find(t)
	if !ok {
		return api.Type{}, false
	}
	return Copy(to), true
}
