package theory

import (
	"slices"

	"triforium/api"
	"triforium/term"
	"triforium/types"
)

// The parts of theories are compared, and put together, by what they are found by: their names, and of an arity its type and its class.

func classKey(c api.Class) string { return c.Name }

func typeKey(d api.TypeDecl) string { return d.Name }

func arityKey(a api.Arity) [2]string { return [2]string{a.Type, a.Class} }

func constKey(c api.ConstDecl) string { return c.Name }

func axiomKey(x api.Axiom) string { return x.Name }

func oracleKey(name string) string { return name }

func sameClass(a, b api.Class) bool { return slices.Equal(a.Supers, b.Supers) }

func sameType(a, b api.TypeDecl) bool { return a == b }

func sameArity(a, b api.Arity) bool {
	return slices.EqualFunc(a.Sorts, b.Sorts, slices.Equal[[]string])
}

func sameConst(a, b api.ConstDecl) bool { return types.Equal(a.Type, b.Type) }

func sameAxiom(a, b api.Axiom) bool { return a.Kind == b.Kind && term.Equal(a.Prop, b.Prop) }

func sameOracle(a, b string) bool { return a == b }

// Within reports whether all that a theory has stands in another one alike.
func Within(a, b api.Theory) bool {
	return allWithin(a.Classes, b.Classes, classKey, sameClass) &&
		allWithin(a.Types, b.Types, typeKey, sameType) &&
		allWithin(a.Arities, b.Arities, arityKey, sameArity) &&
		allWithin(a.Consts, b.Consts, constKey, sameConst) &&
		allWithin(a.Axioms, b.Axioms, axiomKey, sameAxiom) &&
		allWithin(a.Oracles, b.Oracles, oracleKey, sameOracle)
}

// allWithin reports whether for each element of a there is one of b with the same key that is the same.
func allWithin[T any, K comparable](a, b []T, key func(T) K, same func(T, T) bool) bool {
	var at map[K][]int // where the elements of b with a key stand: more than one only in theories that are not right
	for i, x := range a {
		// a theory that was extended has all at the same places
		if i < len(b) && key(b[i]) == key(x) && same(x, b[i]) {
			continue
		}
		if at == nil {
			at = places(b, key)
		}
		if !slices.ContainsFunc(at[key(x)], func(k int) bool { return same(x, b[k]) }) {
			return false
		}
	}
	return true
}

// places returns where the elements with each key stand.
func places[T any, K comparable](l []T, key func(T) K) map[K][]int {
	at := make(map[K][]int, len(l))
	for i, x := range l {
		k := key(x)
		at[k] = append(at[k], i)
	}
	return at
}

// Merge returns the theory with all that both have.
func Merge(name string, a, b api.Theory) (out api.Theory, err api.Errno) {
	defer func() {
		if r := recover(); r != nil {
			out, err = api.Theory{}, errorOf(r)
		}
	}()
	must(Check(a))
	must(Check(b))
	t := joined(name, a, api.Theory{
		Classes: without(b.Classes, a.Classes, classKey),
		Types:   without(b.Types, a.Types, typeKey),
		Arities: without(b.Arities, a.Arities, arityKey),
		Consts:  without(b.Consts, a.Consts, constKey),
		Axioms:  without(b.Axioms, a.Axioms, axiomKey),
		Oracles: without(b.Oracles, a.Oracles, oracleKey),
	})
	if !Within(b, t) {
		panic(api.ErrTheory)
	}
	must(Check(t))
	return Copy(t), api.OK
}

// without returns the elements of l whose keys no element of other has.
func without[T any, K comparable](l, other []T, key func(T) K) []T {
	at := places(other, key)
	return slices.DeleteFunc(slices.Clone(l), func(x T) bool { return len(at[key(x)]) > 0 })
}

// joined returns the theory with all that two have, one behind the other.
func joined(name string, a, b api.Theory) api.Theory {
	return api.Theory{
		Name:    name,
		Classes: slices.Concat(a.Classes, b.Classes),
		Types:   slices.Concat(a.Types, b.Types),
		Arities: slices.Concat(a.Arities, b.Arities),
		Consts:  slices.Concat(a.Consts, b.Consts),
		Axioms:  slices.Concat(a.Axioms, b.Axioms),
		Oracles: slices.Concat(a.Oracles, b.Oracles),
	}
}

// Extend returns a theory with a new name and further declarations and axioms.
func Extend(t api.Theory, name string, more api.Theory) (out api.Theory, err api.Errno) {
	defer func() {
		if r := recover(); r != nil {
			out, err = api.Theory{}, errorOf(r)
		}
	}()
	must(Check(t))
	return extended(t, name, more), api.OK
}

// extended is Extend of a right theory; it panics with an error.
func extended(t api.Theory, name string, more api.Theory) api.Theory {
	if overlaps(t, more) {
		panic(api.ErrDuplicate)
	}
	out := joined(name, t, more)
	must(Check(out))
	return Copy(out)
}

// overlaps reports whether two theories have parts of one name.
func overlaps(a, b api.Theory) bool {
	return meet(a.Classes, b.Classes, classKey) || meet(a.Types, b.Types, typeKey) || meet(a.Arities, b.Arities, arityKey) ||
		meet(a.Consts, b.Consts, constKey) || meet(a.Axioms, b.Axioms, axiomKey) || meet(a.Oracles, b.Oracles, oracleKey)
}

// meet reports whether two lists have elements of one key.
func meet[T any, K comparable](a, b []T, key func(T) K) bool {
	if len(b) == 0 {
		return false
	}
	at := places(a, key)
	for _, x := range b {
		if len(at[key(x)]) > 0 {
			return true
		}
	}
	return false
}
