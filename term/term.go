// Package term is layer 3: terms. See shared/doc/03-term.md.
package term

import (
	"cmp"
	"iter"
	"slices"

	"triforium/api"
	"triforium/types"
)

// Codes of layer 3.
const (
	ErrLoose api.Errno = 50 // a bound variable without its abstraction
	ErrHead  api.Errno = 51 // a term that is not of the wanted form
)

// Copy returns a term in new memory. The other functions of this package build terms that share memory, and copy what they return.
func Copy(t api.Term) api.Term {
	t.Type = types.Copy(t.Type)
	return eachKid(t, Copy)
}

// eachKid returns a node whose Kids are what a function makes of them.
func eachKid(t api.Term, f func(api.Term) api.Term) api.Term {
	kids := slices.Clone(t.Kids)
	for i := range kids {
		kids[i] = f(kids[i])
	}
	t.Kids = kids
	return t
}

// Nodes yields the nodes of a term, each one ahead of its Kids. They are parts of it, not copies: who keeps one copies it.
func Nodes(t api.Term) iter.Seq[api.Term] {
	return func(yield func(api.Term) bool) {
		visit(t, yield)
	}
}

func visit(t api.Term, yield func(api.Term) bool) bool {
	if !yield(t) {
		return false
	}
	for _, k := range t.Kids {
		if !visit(k, yield) {
			return false
		}
	}
	return true
}

// Size returns the number of nodes of a term, without those of its types, and its depth.
func Size(t api.Term) (nodes, depth int) {
	nodes = 1
	for _, k := range t.Kids {
		n, d := Size(k)
		nodes += n
		depth = max(depth, d)
	}
	return nodes, depth + 1
}

// sizeError returns the error of a term that is too large, or too deep.
func sizeError(t api.Term) api.Errno {
	return sizeWithin(t, api.MaxTerm, api.MaxDepth)
}

// sizeWithin returns the error of a term that has more than some nodes, or is deeper than some number of them.
func sizeWithin(t api.Term, nodes, depth int) api.Errno {
	count := 0
	d := measure(&t, &count, nodes)
	if count > nodes {
		return api.ErrCount
	}
	if d > depth {
		return api.ErrDepth
	}
	return api.OK
}

// measure returns the depth of a term, and counts its nodes; of a term with more than some nodes it looks at no more than one further, and the depth is any.
func measure(t *api.Term, count *int, most int) int {
	depth := 0
	*count++
	for i := range t.Kids {
		if *count > most {
			break
		}
		depth = max(depth, measure(&t.Kids[i], count, most))
	}
	return depth + 1
}

// Equal reports whether terms are equal but for the names of bound variables; Compare orders them.
func Equal(a, b api.Term) bool {
	return equal(&a, &b)
}

// equal takes pointers, as it is asked very often, and terms are large values.
func equal(a, b *api.Term) bool {
	if a.Op != b.Op || a.Num != b.Num || len(a.Kids) != len(b.Kids) || a.Op != api.Abs && a.Name != b.Name {
		return false
	}
	for i := range a.Kids {
		if !equal(&a.Kids[i], &b.Kids[i]) {
			return false
		}
	}
	return types.Equal(a.Type, b.Type)
}

func Compare(a, b api.Term) int {
	own := cmp.Or(cmp.Compare(a.Op, b.Op), compareNames(a, b), cmp.Compare(a.Num, b.Num), types.Compare(a.Type, b.Type))
	if own != 0 {
		return own
	}
	return slices.CompareFunc(a.Kids, b.Kids, Compare)
}

// compareNames compares the names of two nodes of one kind: those of abstractions play no part.
func compareNames(a, b api.Term) int {
	if a.Op == api.Abs {
		return 0
	}
	return cmp.Compare(a.Name, b.Name)
}

// isApp reports whether a node is an application of a function to an argument.
func isApp(t api.Term) bool {
	return t.Op == api.App && len(t.Kids) == 2
}

// isAbs reports whether a node is an abstraction with a body.
func isAbs(t api.Term) bool {
	return t.Op == api.Abs && len(t.Kids) == 1
}
