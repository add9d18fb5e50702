package model

import (
	"math/bits"

	"triforium/api"
	"triforium/types"
)

// knownConst is a constant whose meaning is known: its declared type, as a text, and how many arguments it takes.
type knownConst struct {
	name, typ string
	takes     int
}

// knownConsts returns the constants of Pure and HOL.
func knownConsts() [16]knownConst {
	const (
		binary     = "fun(bool, fun(bool, bool))"
		equality   = "fun(?a.0, fun(?a.0, bool))"
		quantifier = "fun(fun(?a.0, bool), bool)"
	)
	return [...]knownConst{
		{"imp", "fun(prop, fun(prop, prop))", 2},
		{"all", "fun(fun(?a.0, prop), prop)", 1},
		{"eq", "fun(?a.0, fun(?a.0, prop))", 2},
		{"protect", "fun(prop, prop)", 1},
		{"Trueprop", "fun(bool, prop)", 1},
		{"True", "bool", 0},
		{"False", "bool", 0},
		{"Not", "fun(bool, bool)", 1},
		{"And", binary, 2},
		{"Or", binary, 2},
		{"Implies", binary, 2},
		{"Equal", equality, 2},
		{"All", quantifier, 1},
		{"Ex", quantifier, 1},
		{"The", "fun(fun(?a.0, bool), ?a.0)", 1},
		{"If", "fun(bool, fun(?a.0, fun(?a.0, ?a.0)))", 3},
	}
}

// Known returns the names of the constants whose meaning is known.
func Known() []string {
	var l []string
	for _, k := range knownConsts() {
		l = append(l, k.name)
	}
	return l
}

// knownIn returns which of the known constants are among constants with their declared types, and how many arguments they take. Of another type none is known.
func knownIn(consts map[string]api.Type) map[string]int {
	m := map[string]int{}
	for _, k := range knownConsts() {
		t, ok := consts[k.name]
		if s, e := types.Text(t); ok && e == api.OK && s == k.typ {
			m[k.name] = k.takes
		}
	}
	return m
}

// truth returns the element that a truth value is.
func truth(b bool) int {
	if b {
		return 1
	}
	return 0
}

// knownMeaning returns what a known constant gives for its arguments. Of a quantifier, size is that of the type over which it ranges.
func knownMeaning(name string, size uint64) func([]int) int {
	switch name {
	case "imp", "Implies":
		return func(l []int) int { return truth(l[0] == 0 || l[1] == 1) }
	case "all", "All":
		return func(l []int) int { return truth(l[0] == 1<<size-1) }
	case "Ex":
		return func(l []int) int { return truth(l[0] != 0) }
	case "The":
		return func(l []int) int { return only(l[0]) }
	case "eq", "Equal":
		return func(l []int) int { return truth(l[0] == l[1]) }
	case "protect", "Trueprop":
		return func(l []int) int { return l[0] }
	case "True":
		return func([]int) int { return 1 }
	case "Not":
		return func(l []int) int { return 1 - l[0] }
	case "And":
		return func(l []int) int { return l[0] & l[1] }
	case "Or":
		return func(l []int) int { return l[0] | l[1] }
	case "If":
		return func(l []int) int { return l[2-l[0]] }
	}
	return func([]int) int { return 0 } // False
}

// only returns the only element of a set, which is the sum of 2 to the power of each of its elements; 0, if it has not just one.
func only(set int) int {
	if bits.OnesCount(uint(set)) != 1 {
		return 0
	}
	return bits.TrailingZeros(uint(set))
}
