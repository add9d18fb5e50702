package pattern

import (
	"cmp"
	"slices"
	"strconv"

	"triforium/api"
	"triforium/types"
)

// key is what the bind of a variable is found by: the name, and the digits of the index.
type key [2]string

func keyOf(name string, index int) key { return key{name, strconv.Itoa(index)} }

func varKey(v api.Term) key { return keyOf(v.Name, v.Num) }

// typeBind is a bind with the size of its type. Of a type that is too large for any use the size alone is kept: types may double with each bind.
type typeBind struct {
	api.TypeBind
	nodes, depth int
}

// tooLarge reports whether a type of a size is one that types.Check does not let be.
func tooLarge(nodes, depth int) bool {
	return nodes > api.MaxType || depth > api.MaxDepth
}

func newTypeBind(b api.TypeBind) typeBind {
	nodes, depth := types.Size(b.To)
	return typeBind{b, nodes, depth}
}

// typeBinds has the binds of type variables, each of which has been applied to all others.
type typeBinds map[key]typeBind

// find returns the bind of a node that is a variable.
func (m typeBinds) find(t *api.Type) (typeBind, bool) {
	if t.Op != api.TVar || len(m) == 0 {
		return typeBind{}, false
	}
	b, ok := m[keyOf(t.Name, t.Index)]
	return b, ok
}

// touches reports whether a type has a variable that is bound.
func (m typeBinds) touches(t *api.Type) bool {
	if _, ok := m.find(t); ok {
		return true
	}
	for i := range t.Args {
		if m.touches(&t.Args[i]) {
			return true
		}
	}
	return false
}

// size returns the size of what binds make of a type.
func (m typeBinds) size(t *api.Type) (nodes, depth int) {
	if b, ok := m.find(t); ok {
		return b.nodes, b.depth
	}
	nodes = 1
	for i := range t.Args {
		n, d := m.size(&t.Args[i])
		nodes += n
		depth = max(depth, d)
	}
	return nodes, depth + 1
}

// apply returns what binds make of a type; false, if it is too large.
func (m typeBinds) apply(t api.Type) (api.Type, bool) {
	if !m.touches(&t) {
		return t, !tooLarge(types.Size(t))
	}
	if tooLarge(m.size(&t)) {
		return api.Type{}, false
	}
	return m.replace(t), true
}

func (m typeBinds) replace(t api.Type) api.Type {
	if b, ok := m.find(&t); ok {
		return b.To
	}
	if len(t.Args) == 0 {
		return t
	}
	args := make([]api.Type, len(t.Args))
	for i, a := range t.Args {
		args[i] = m.replace(a)
	}
	t.Args = args
	return t
}

// put adds new binds of variables that have none, and applies them to all others.
func (m typeBinds) put(l []api.TypeBind) {
	more := make(typeBinds, len(l))
	for _, b := range l {
		more[keyOf(b.Name, b.Index)] = newTypeBind(b)
	}
	for k, b := range m {
		if tooLarge(b.nodes, b.depth) || !more.touches(&b.To) {
			continue
		}
		b.nodes, b.depth = more.size(&b.To)
		b.To, _ = more.apply(b.To)
		m[k] = b
	}
	for k, b := range more {
		m[k] = b
	}
}

// ordered returns the elements of a map by the names, and then the indices, of what they bind.
func ordered[T any](m map[key]T, bind func(T) (string, int)) []T {
	l := make([]T, 0, len(m))
	for _, b := range m {
		l = append(l, b)
	}
	slices.SortFunc(l, func(a, b T) int {
		name, index := bind(a)
		other, number := bind(b)
		return cmp.Or(cmp.Compare(name, other), cmp.Compare(index, number))
	})
	return l
}

func typeBound(b typeBind) (string, int) { return b.Name, b.Index }

func termBound(b api.TermBind) (string, int) { return b.Name, b.Index }
