package classical

import (
	"slices"

	"triforium/api"
	"triforium/hol"
	"triforium/term"
	"triforium/types"
)

const maxAtoms = 12

// Tautology reports whether a term of HOL's connectives over atoms is true for all values of these; otherwise with the atoms that are false for one of them.
func Tautology(t api.Term) (bool, []api.Term, api.Errno) {
	k, e := term.TypeOf(t)
	if e != api.OK {
		return false, nil, e
	}
	if !types.Equal(k, hol.BoolType()) {
		return false, nil, api.ErrType
	}
	f := &formula{}
	value := f.value(t)
	if len(f.atoms) > maxAtoms {
		return false, nil, api.ErrCount
	}
	for n := range 1 << len(f.atoms) {
		f.values = n
		if value() {
			continue
		}
		var out []api.Term
		for i, a := range f.atoms {
			if !f.holds(i) {
				out = append(out, term.Copy(a))
			}
		}
		return false, out, api.OK
	}
	return true, nil, api.OK
}

// formula has the atoms of a formula, and the values of these: the bit of the first one is the highest.
type formula struct {
	atoms  []api.Term
	values int
}

// holds reports whether an atom is true.
func (f *formula) holds(i int) bool { return f.values>>(len(f.atoms)-1-i)&1 == 1 }

// value returns the function that is the value of a term.
func (f *formula) value(t api.Term) func() bool {
	if len(f.atoms) > maxAtoms {
		return nil
	}
	name, l := hol.Connective(t)
	var args []func() bool
	for _, a := range l {
		args = append(args, f.value(a))
	}
	switch name {
	case "True":
		return func() bool { return true }
	case "False":
		return func() bool { return false }
	case "Not":
		return func() bool { return !args[0]() }
	case "And":
		return func() bool { return args[0]() && args[1]() }
	case "Or":
		return func() bool { return args[0]() || args[1]() }
	case "Implies":
		return func() bool { return !args[0]() || args[1]() }
	case "Equal":
		return func() bool { return args[0]() == args[1]() }
	}
	i := slices.IndexFunc(f.atoms, func(a api.Term) bool { return term.Equal(a, t) })
	if i < 0 {
		i = len(f.atoms)
		f.atoms = append(f.atoms, t)
	}
	return func() bool { return f.holds(i) }
}
