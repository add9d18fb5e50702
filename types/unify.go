package types

import (
	"cmp"
	"slices"

	"triforium/api"
	"triforium/sort"
)

// maxBound is how many nodes a type has at most to which unification binds a variable.
const maxBound = 2000

// Unify returns the most general binds that make types equal.
func Unify(thy api.Theory, a, b api.Type) ([]api.TypeBind, api.Errno) {
	g, e := sort.Sign(thy)
	if e != api.OK {
		return nil, e
	}
	out, _, e := UnifyIn(g, a, b, max(MaxIndex(a), MaxIndex(b))+1)
	return out, e
}

// UnifyIn is Unify in a theory whose signature is known, but its new variables have indices from a number on, which is above those of both types. It returns the index for the next one, too.
func UnifyIn(g sort.Signature, a, b api.Type, next int) (out []api.TypeBind, behind int, err api.Errno) {
	if e := CheckIn(g, a); e != api.OK {
		return nil, 0, e
	}
	if e := CheckIn(g, b); e != api.OK {
		return nil, 0, e
	}
	var s Sorts
	if e := cmp.Or(s.Add(a), s.Add(b)); e != api.OK {
		return nil, 0, e
	}
	defer func() {
		if r := recover(); r != nil {
			out, behind, err = nil, 0, errorOf(r)
		}
	}()
	u := newUnifier(g, 0, next)
	u.unify(a, b)
	out, e := u.result()
	if e != api.OK {
		return nil, 0, e
	}
	return out, u.next, api.OK
}

// errorOf returns the code with which unification was left.
func errorOf(r any) api.Errno {
	if e, ok := r.(api.Errno); ok {
		return e
	}
	return api.ErrFail
}

// Unifier makes types equal, one pair behind the other, each with the binds so far.
// These are applied to each other: what a variable is bound to has no variable that is bound.
// The types that it binds share memory with each other, and with what is unified.
type Unifier struct {
	sign  sort.Signature
	known binds
	users map[key]map[key]bool // of each variable those bound to what it stands in: where it is bound, they change
	fixed int                  // TVars with a lower index stay what they are, as TFrees do
	next  int                  // the index of the next new variable
}

func newUnifier(g sort.Signature, fixed, next int) *Unifier {
	return &Unifier{g, binds{}, map[key]map[key]bool{}, fixed, next}
}

// NewUnifier returns a Unifier without binds, for which all variables of types that have the right form stay what they are: it binds those alone that it makes.
func NewUnifier(g sort.Signature) *Unifier {
	return newUnifier(g, maxIndex+1, maxIndex+1)
}

// New returns a new variable of all types.
func (u *Unifier) New() api.Type {
	u.next++
	return api.Type{Op: api.TVar, Name: "a", Index: u.next - 1}
}

// Instance returns a type whose TVars, all of which have the index 0, are new ones.
func (u *Unifier) Instance(t api.Type) api.Type {
	if MaxIndex(t) < 0 {
		return t
	}
	u.next++
	return Raise(t, u.next-1)
}

// IsNew reports whether a type is a variable that the Unifier made.
func (u *Unifier) IsNew(t api.Type) bool {
	return t.Op == api.TVar && t.Index >= u.fixed
}

// Unify makes two types equal, or returns the error of unification. Behind an error the Unifier is of no further use.
func (u *Unifier) Unify(a, b api.Type) (err api.Errno) {
	defer func() {
		if r := recover(); r != nil {
			err = errorOf(r)
		}
	}()
	u.unify(a, b)
	return api.OK
}

// Apply returns what the binds make of a type.
func (u *Unifier) Apply(t api.Type) api.Type {
	return replace(t, u.known.copied)
}

// now returns what binds make of a type, but not of its Args.
func (u *Unifier) now(t api.Type) api.Type {
	if to, ok := u.known.find(t); ok {
		return to
	}
	return t
}

// unify binds variables so that types become equal, or panics with an error.
// That it goes through the Args of equal types, too, changes nothing: their equal variables are left as they are.
func (u *Unifier) unify(a, b api.Type) {
	a, b = u.now(a), u.now(b)
	switch {
	case a.Op == api.TVar && b.Op == api.TVar && keyOf(a) == keyOf(b):
	case u.IsNew(a):
		u.solve(a, b)
	case u.IsNew(b):
		u.solve(b, a)
	case a.Op != b.Op || a.Name != b.Name || a.Index != b.Index || len(a.Args) != len(b.Args):
		panic(api.ErrFail)
	default:
		for i := range a.Args {
			u.unify(a.Args[i], b.Args[i])
		}
	}
}

// solve makes a variable and another type equal.
func (u *Unifier) solve(v, t api.Type) {
	if u.occurs(keyOf(v), t) {
		panic(ErrOccurs)
	}
	if u.IsNew(t) && u.sign.Less(v.Sort, t.Sort) {
		u.bind(t, v)
		return
	}
	u.narrow(t, v.Sort)
	u.bind(v, t)
}

// occurs reports whether a variable is in what binds make of a type.
func (u *Unifier) occurs(v key, t api.Type) bool {
	t = u.now(t)
	if t.Op == api.TVar {
		return keyOf(t) == v
	}
	for _, a := range t.Args {
		if u.occurs(v, a) {
			return true
		}
	}
	return false
}

// narrow binds variables of a type to narrower ones, so that it has a sort.
func (u *Unifier) narrow(t api.Type, s []string) {
	if len(s) == 0 {
		return
	}
	t = u.now(t)
	if t.Op == api.TCon {
		u.narrowArgs(t, s)
		return
	}
	if u.sign.Less(t.Sort, s) {
		return
	}
	m, e := u.sign.Meet(t.Sort, s)
	if !u.IsNew(t) || e != api.OK {
		panic(api.ErrSort)
	}
	n := api.Type{Op: api.TVar, Name: t.Name, Index: u.next, Sort: m}
	u.next++
	u.bind(t, n)
}

func (u *Unifier) narrowArgs(t api.Type, s []string) {
	sorts, e := u.sign.Args(t.Name, s)
	if e != api.OK {
		panic(api.ErrSort)
	}
	for i, a := range t.Args {
		u.narrow(a, sorts[i])
	}
}

// bind binds a variable to what binds make of a type, and applies this to all other binds.
func (u *Unifier) bind(v, t api.Type) {
	to := u.applied(u.known, t)
	k := keyOf(v)
	one := binds{k: to}
	for w := range u.users[k] {
		u.known[w] = u.applied(one, u.known[w])
	}
	u.known[k] = to
	for n := range Nodes(to) {
		if u.IsNew(n) {
			u.use(keyOf(n), k)
		}
	}
	delete(u.users, k)
}

// use notes that a variable stands in what another one is bound to, and with it in what has this one.
func (u *Unifier) use(x, v key) {
	if u.users[x][v] {
		return
	}
	if u.users[x] == nil {
		u.users[x] = map[key]bool{}
	}
	u.users[x][v] = true
	for w := range u.users[v] {
		u.users[x][w] = true
	}
}

// applied returns what binds make of a type, or panics if it is too large. It is counted ahead of building it, as it may be very much too large.
func (u *Unifier) applied(b binds, t api.Type) api.Type {
	count, changed := 0, false
	for n := range Nodes(t) {
		if to, ok := b.find(n); ok {
			size, _ := Size(to)
			count += size - 1
			changed = true
		}
		count++
		if count > maxBound {
			panic(api.ErrLarge)
		}
	}
	if !changed {
		return t
	}
	return replace(t, b.find)
}

// result returns the binds in new memory, by name and then index.
func (u *Unifier) result() ([]api.TypeBind, api.Errno) {
	var out []api.TypeBind
	for k, t := range u.known {
		out = append(out, api.TypeBind{Name: k.name, Index: k.index, To: Copy(t)})
	}
	slices.SortFunc(out, func(a, b api.TypeBind) int {
		return cmp.Or(cmp.Compare(a.Name, b.Name), cmp.Compare(a.Index, b.Index))
	})
	for _, b := range out {
		if e := sizeError(&b.To); e != api.OK {
			return nil, e
		}
	}
	return out, api.OK
}
