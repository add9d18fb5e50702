package types

import (
	"cmp"
	"slices"

	"triforium/api"
	"triforium/sort"
)

// maxBound is how many nodes a type has at most to which unification binds a variable.
const maxBound = 2000

// Unify returns the most general binds that make types equal.
func Unify(thy api.Theory, a, b api.Type) ([]api.TypeBind, api.Errno) {
	g, e := sort.Sign(thy)
	if e != api.OK {
		return nil, e
	}
	out, _, e := UnifyIn(g, a, b, max(MaxIndex(a), MaxIndex(b))+1)
	return out, e
}

// UnifyIn is Unify in a theory whose signature is known, but its new variables have indices from a number on, which is above those of both types. It returns the index for the next one, too.
func UnifyIn(g sort.Signature, a, b api.Type, next int) (out []api.TypeBind, behind int, err api.Errno) {
	if e := CheckIn(g, a); e != api.OK {
		return nil, 0, e
	}
	if e := CheckIn(g, b); e != api.OK {
		return nil, 0, e
	}
	var s Sorts
	if e := cmp.Or(s.Add(a), s.Add(b)); e != api.OK {
		return nil, 0, e
	}
	defer func() {
		if r := recover(); r != nil {
			out, behind, err = nil, 0, errorOf(r)
		}
	}()
	u := unifier{sign: g, known: binds{}, next: next}
	u.unify(a, b)
	out, e := u.result()
	if e != api.OK {
		return nil, 0, e
	}
	return out, u.next, api.OK
}

// errorOf returns the code with which unification was left.
func errorOf(r any) api.Errno {
	if e, ok := r.(api.Errno); ok {
		return e
	}
	return api.ErrFail
}

// unifier has the binds so far, each of them applied to all others, so that what a variable is bound to has no variable that is bound.
// The types that it binds share memory with each other, and with what is unified.
type unifier struct {
	sign  sort.Signature
	known binds
	next  int // the index of the next new variable
}

// now returns what binds make of a type, but not of its Args.
func (u *unifier) now(t api.Type) api.Type {
	if to, ok := u.known.find(t); ok {
		return to
	}
	return t
}

// unify binds variables so that types become equal, or panics with an error.
// That it goes through the Args of equal types, too, changes nothing: their equal variables are left as they are.
func (u *unifier) unify(a, b api.Type) {
	a, b = u.now(a), u.now(b)
	switch {
	case a.Op == api.TVar && b.Op == api.TVar && keyOf(a) == keyOf(b):
	case a.Op == api.TVar:
		u.solve(a, b)
	case b.Op == api.TVar:
		u.solve(b, a)
	case a.Op != b.Op || a.Name != b.Name || len(a.Args) != len(b.Args):
		panic(api.ErrFail)
	default:
		for i := range a.Args {
			u.unify(a.Args[i], b.Args[i])
		}
	}
}

// solve makes a variable and another type equal.
func (u *unifier) solve(v, t api.Type) {
	if u.occurs(keyOf(v), t) {
		panic(ErrOccurs)
	}
	if t.Op == api.TVar && u.sign.Less(v.Sort, t.Sort) {
		u.bind(t, v)
		return
	}
	u.narrow(t, v.Sort)
	u.bind(v, t)
}

// occurs reports whether a variable is in what binds make of a type.
func (u *unifier) occurs(v key, t api.Type) bool {
	t = u.now(t)
	if t.Op == api.TVar {
		return keyOf(t) == v
	}
	for _, a := range t.Args {
		if u.occurs(v, a) {
			return true
		}
	}
	return false
}

// narrow binds variables of a type to narrower ones, so that it has a sort.
func (u *unifier) narrow(t api.Type, s []string) {
	t = u.now(t)
	if t.Op == api.TCon {
		u.narrowArgs(t, s)
		return
	}
	if u.sign.Less(t.Sort, s) {
		return
	}
	m, e := u.sign.Meet(t.Sort, s)
	if t.Op != api.TVar || e != api.OK {
		panic(api.ErrSort)
	}
	n := api.Type{Op: api.TVar, Name: t.Name, Index: u.next, Sort: m}
	u.next++
	u.bind(t, n)
}

func (u *unifier) narrowArgs(t api.Type, s []string) {
	sorts, e := u.sign.Args(t.Name, s)
	if e != api.OK {
		panic(api.ErrSort)
	}
	for i, a := range t.Args {
		u.narrow(a, sorts[i])
	}
}

// bind binds a variable to what binds make of a type, and applies this to all other binds.
func (u *unifier) bind(v, t api.Type) {
	to := u.applied(u.known, t)
	one := binds{keyOf(v): to}
	for k, old := range u.known {
		u.known[k] = u.applied(one, old)
	}
	u.known[keyOf(v)] = to
}

// applied returns what binds make of a type, or panics if it is too large. It is counted ahead of building it, as it may be very much too large.
func (u *unifier) applied(b binds, t api.Type) api.Type {
	count, changed := 0, false
	for n := range Nodes(t) {
		if to, ok := b.find(n); ok {
			size, _ := Size(to)
			count += size - 1
			changed = true
		}
		count++
		if count > maxBound {
			panic(api.ErrLarge)
		}
	}
	if !changed {
		return t
	}
	return replace(t, b.find)
}

// result returns the binds in new memory, by name and then index.
func (u *unifier) result() ([]api.TypeBind, api.Errno) {
	var out []api.TypeBind
	for k, t := range u.known {
		out = append(out, api.TypeBind{Name: k.name, Index: k.index, To: Copy(t)})
	}
	slices.SortFunc(out, func(a, b api.TypeBind) int {
		return cmp.Or(cmp.Compare(a.Name, b.Name), cmp.Compare(a.Index, b.Index))
	})
	for _, b := range out {
		if e := sizeError(&b.To); e != api.OK {
			return nil, e
		}
	}
	return out, api.OK
}
