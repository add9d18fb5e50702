package term

import (
	"slices"
	"strconv"

	"triforium/api"
	"triforium/types"
)

// key is what tells a variable, of terms or types, from others, but for its type or sort.
type key struct {
	op    int
	name  string
	index int
}

func keyOf(t api.Term) key {
	return key{t.Op, t.Name, t.Num}
}

// distinct has different values, in the order in which they came. Those of one key are compared.
type distinct[T any] struct {
	list []T
	at   map[key][]int
}

func (d *distinct[T]) add(k key, x T, same func(T, T) bool) {
	if d.at == nil {
		d.at = map[key][]int{}
	}
	if slices.ContainsFunc(d.at[k], func(i int) bool { return same(d.list[i], x) }) {
		return
	}
	d.at[k] = append(d.at[k], len(d.list))
	d.list = append(d.list, x)
}

// Frees and Vars return the fixed and the schematic variables, and TypeVariables those of types, each once, in the order in which they occur.
func Frees(t api.Term) []api.Term {
	return leaves(t, api.Free)
}

func Vars(t api.Term) []api.Term {
	return leaves(t, api.Var)
}

// leaves returns the nodes of a kind without their Kids, each once.
func leaves(t api.Term, op int) []api.Term {
	var d distinct[api.Term]
	for n := range Nodes(t) {
		if n.Op == op {
			n.Kids = nil
			d.add(keyOf(n), n, Equal)
		}
	}
	for i := range d.list {
		d.list[i] = Copy(d.list[i])
	}
	return d.list
}

func TypeVariables(t api.Term) []api.Type {
	var d distinct[api.Type]
	for n := range Nodes(t) {
		for _, v := range types.Variables(n.Type) {
			d.add(key{v.Op, v.Name, v.Index}, v, types.Equal)
		}
	}
	return d.list
}

// MaxIndex returns the greatest index of schematic variables and type variables, -1 without one; Raise adds a number to them.
func MaxIndex(t api.Term) int {
	most, found := -1, false
	meet := func(n int) {
		if !found || n > most {
			most, found = n, true
		}
	}
	for n := range Nodes(t) {
		if n.Op == api.Var {
			meet(n.Num)
		}
		for k := range types.Nodes(n.Type) {
			if k.Op == api.TVar {
				meet(k.Index)
			}
		}
	}
	return most
}

// Variant returns a name that is not among some.
func Variant(name string, names []string) string {
	taken := make(map[string]bool, len(names))
	for _, n := range names {
		taken[n] = true
	}
	if !taken[name] {
		return name
	}
	i := 1
	for taken[name+"_"+strconv.Itoa(i)] {
		i++
	}
	return name + "_" + strconv.Itoa(i)
}
