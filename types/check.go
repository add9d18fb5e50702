package types

import (
	"slices"

	"triforium/api"
	"triforium/sort"
)

// maxIndex is the greatest index of a schematic variable.
const maxIndex = 1000000

// Form returns the error of a type that has not the right form, in whatever theory.
func Form(t api.Type) api.Errno {
	if e := sizeError(&t); e != api.OK {
		return e
	}
	return formBelow(&t)
}

// sizeError returns the error of a type that is too large, or too deep.
func sizeError(t *api.Type) api.Errno {
	count := 0
	depth := measure(t, &count)
	if count > api.MaxType {
		return api.ErrCount
	}
	if depth > api.MaxDepth {
		return api.ErrDepth
	}
	return api.OK
}

// measure returns the depth of a type, and counts its nodes; of a type with too many nodes it looks at no more than one further, and the depth is any.
func measure(t *api.Type, count *int) int {
	depth := 0
	*count++
	for i := range t.Args {
		if *count > api.MaxType {
			break
		}
		depth = max(depth, measure(&t.Args[i], count))
	}
	return depth + 1
}

func formBelow(t *api.Type) api.Errno {
	if e := nodeForm(t); e != api.OK {
		return e
	}
	for i := range t.Args {
		if e := formBelow(&t.Args[i]); e != api.OK {
			return e
		}
	}
	return api.OK
}

func nodeForm(t *api.Type) api.Errno {
	if !ownFields(t) {
		return api.ErrForm
	}
	if t.Op == api.TVar && (t.Index < 0 || t.Index > maxIndex) {
		return api.ErrRange
	}
	if !sort.IsName(t.Name) {
		return api.ErrForm
	}
	for i, c := range t.Sort {
		if !sort.IsName(c) || i > 0 && t.Sort[i-1] >= c {
			return api.ErrForm
		}
	}
	if len(t.Sort) > api.MaxSort {
		return api.ErrCount
	}
	return api.OK
}

// ownFields reports whether the kind of a node is one, and the fields that it does not name are zero.
func ownFields(t *api.Type) bool {
	switch t.Op {
	case api.TCon:
		return t.Index == 0 && len(t.Sort) == 0
	case api.TFree:
		return t.Index == 0 && len(t.Args) == 0
	case api.TVar:
		return len(t.Args) == 0
	}
	return false
}

// Check returns the error of a type of a theory.
func Check(thy api.Theory, t api.Type) api.Errno {
	g, e := sort.Sign(thy)
	if e != api.OK {
		return e
	}
	return CheckIn(g, t)
}

// CheckIn is Check in a theory whose signature is known.
func CheckIn(g sort.Signature, t api.Type) api.Errno {
	if e := Form(t); e != api.OK {
		return e
	}
	return Fits(g, t)
}

// Fits returns the error of a type of the right form in a theory.
func Fits(g sort.Signature, t api.Type) api.Errno {
	variables := 0
	if e := fitsBelow(g, &t, &variables); e != api.OK || variables < 2 {
		return e
	}
	var s Sorts
	return s.Add(t)
}

// fitsBelow returns the error of the nodes of a type, one by one, and counts its variables.
func fitsBelow(g sort.Signature, t *api.Type, variables *int) api.Errno {
	if t.Op != api.TCon {
		*variables++
		if !g.Known(t.Sort) {
			return api.ErrMissing
		}
		if len(t.Sort) > 0 && !g.IsNormal(t.Sort) {
			return api.ErrSort
		}
		return api.OK
	}
	n, ok := g.Number(t.Name)
	if !ok {
		return api.ErrMissing
	}
	if n != len(t.Args) {
		return api.ErrCount
	}
	for i := range t.Args {
		if e := fitsBelow(g, &t.Args[i], variables); e != api.OK {
			return e
		}
	}
	return api.OK
}

// Sorts has the sorts of the variables that were met: the zero value of none.
type Sorts struct {
	met map[key][]string
}

// Add meets the variables of a type: api.ErrSort, if one of them was met with another sort.
func (s *Sorts) Add(t api.Type) api.Errno {
	for n := range Nodes(t) {
		if !isVariable(n) {
			continue
		}
		if s.met == nil {
			s.met = map[key][]string{}
		}
		k := keyOf(n)
		old, ok := s.met[k]
		if !ok {
			s.met[k] = slices.Clone(n.Sort)
		} else if !slices.Equal(old, n.Sort) {
			return api.ErrSort
		}
	}
	return api.OK
}

// HasSort reports whether a type has a sort.
func HasSort(thy api.Theory, t api.Type, s []string) bool {
	g, e := sort.Sign(thy)
	if e != api.OK || CheckIn(g, t) != api.OK {
		return false
	}
	if _, e := g.Normal(s); e != api.OK {
		return false
	}
	return HasSortIn(g, t, s)
}

// HasSortIn is HasSort in a theory whose signature is known, for a type that is right in it and a sort of classes that exist.
func HasSortIn(g sort.Signature, t api.Type, s []string) bool {
	if len(s) == 0 {
		return true
	}
	if t.Op != api.TCon {
		return g.Less(t.Sort, s)
	}
	sorts, ok := g.Wanted(t.Name, s)
	if !ok {
		return false
	}
	for i, a := range t.Args {
		if !HasSortIn(g, a, sorts[i]) {
			return false
		}
	}
	return true
}

// Match returns binds behind some, with which a pattern is a type.
func Match(thy api.Theory, pattern, t api.Type, l []api.TypeBind) ([]api.TypeBind, api.Errno) {
	g, e := sort.Sign(thy)
	if e != api.OK {
		return nil, e
	}
	if e := CheckIn(g, pattern); e != api.OK {
		return nil, e
	}
	if e := CheckIn(g, t); e != api.OK {
		return nil, e
	}
	if len(l) > api.MaxItems {
		return nil, api.ErrCount
	}
	for _, b := range l {
		if e := CheckIn(g, b.To); e != api.OK {
			return nil, e
		}
	}
	return MatchIn(g, pattern, t, l)
}

// MatchIn is Match in a theory whose signature is known, of types that are right in it.
func MatchIn(g sort.Signature, pattern, t api.Type, l []api.TypeBind) ([]api.TypeBind, api.Errno) {
	m := matcher{sign: g, known: newBinds(l)}
	for _, b := range l {
		m.out = append(m.out, api.TypeBind{Name: b.Name, Index: b.Index, To: Copy(b.To)})
	}
	if !m.match(pattern, t) {
		return nil, api.ErrFail
	}
	return m.out, api.OK
}

// matcher has the binds of a match, and those of them that count.
type matcher struct {
	sign  sort.Signature
	known binds
	out   []api.TypeBind
}

func (m *matcher) match(p, t api.Type) bool {
	if p.Op == api.TVar {
		return m.bind(p, t)
	}
	if p.Op != t.Op || p.Name != t.Name || !slices.Equal(p.Sort, t.Sort) {
		return false
	}
	return slices.EqualFunc(p.Args, t.Args, m.match)
}

func (m *matcher) bind(p, t api.Type) bool {
	if to, ok := m.known[keyOf(p)]; ok {
		return Equal(to, t)
	}
	if !HasSortIn(m.sign, t, p.Sort) {
		return false
	}
	m.known[keyOf(p)] = t
	m.out = append(m.out, api.TypeBind{Name: p.Name, Index: p.Index, To: Copy(t)})
	return true
}
