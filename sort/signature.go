package sort

import (
	"iter"
	"slices"
	"strings"

	"triforium/api"
)

// Signature has the classes, type constructors and arities of a theory that Check has found right.
// The functions of this package ask it; other layers keep one where they ask much about one theory.
type Signature struct {
	classes map[string]int // the index of each class
	supers  [][]int        // of each class the indices of its Supers
	above   []classSet     // of each class all those above it, and itself
	types   []api.TypeDecl
	numbers map[string]int // how many arguments each constructor takes
	arities map[arityKey][][]string
}

// arityKey is what an arity is found by.
type arityKey struct {
	name, class string
}

// classSet is a set of indices of classes.
type classSet [(api.MaxItems + 63) / 64]uint64

func (s *classSet) add(i int) { s[i/64] |= 1 << (i % 64) }

func (s *classSet) has(i int) bool { return s[i/64]>>(i%64)&1 == 1 }

func (s *classSet) addAll(o classSet) {
	for i := range s {
		s[i] |= o[i]
	}
}

// Sign returns the signature of a theory, or its error by Check.
func Sign(t api.Theory) (Signature, api.Errno) {
	g, e := signClasses(t.Classes)
	if e == api.OK {
		e = g.addTypes(t.Types)
	}
	if e == api.OK {
		e = g.addArities(t.Arities)
	}
	if e == api.OK {
		e = g.complete(t.Arities)
	}
	if e != api.OK {
		return Signature{}, e
	}
	return g, api.OK
}

// signClasses returns a signature that has classes alone, or their error.
func signClasses(l []api.Class) (Signature, api.Errno) {
	if len(l) > api.MaxItems {
		return Signature{}, api.ErrCount
	}
	g := Signature{classes: make(map[string]int, len(l))}
	for _, c := range l {
		if e := g.addClass(c); e != api.OK {
			return Signature{}, e
		}
	}
	return g, api.OK
}

func (g *Signature) addClass(c api.Class) api.Errno {
	if !IsName(c.Name) {
		return ErrName
	}
	if _, ok := g.classes[c.Name]; ok {
		return api.ErrDuplicate
	}
	if len(c.Supers) > api.MaxSort {
		return api.ErrCount
	}
	var supers []int
	for i, s := range c.Supers {
		k, ok := g.classes[s]
		if !ok {
			return api.ErrMissing
		}
		if i > 0 && c.Supers[i-1] >= s {
			return api.ErrOrder
		}
		supers = append(supers, k)
	}
	n := len(g.supers)
	g.classes[c.Name] = n
	g.supers = append(g.supers, supers)
	g.above = append(g.above, classSet{})
	for k := range g.upward(n) {
		g.above[n].add(k)
	}
	return api.OK
}

// upward yields a class, and all classes above it, each once.
func (g *Signature) upward(c int) iter.Seq[int] {
	return func(yield func(int) bool) {
		var seen classSet
		seen.add(c)
		work := []int{c}
		for len(work) > 0 {
			k := work[len(work)-1]
			work = work[:len(work)-1]
			if !yield(k) {
				return
			}
			for _, s := range g.supers[k] {
				if !seen.has(s) {
					seen.add(s)
					work = append(work, s)
				}
			}
		}
	}
}

func (g *Signature) addTypes(l []api.TypeDecl) api.Errno {
	if len(l) > api.MaxItems {
		return api.ErrCount
	}
	g.numbers = make(map[string]int, len(l))
	for _, d := range l {
		if !IsName(d.Name) {
			return ErrName
		}
		if _, ok := g.numbers[d.Name]; ok {
			return api.ErrDuplicate
		}
		if d.Arity < 0 || d.Arity > maxArguments {
			return api.ErrRange
		}
		g.numbers[d.Name] = d.Arity
	}
	g.types = slices.Clone(l)
	return api.OK
}

// maxArguments is how many arguments a type constructor has at most.
const maxArguments = 10

func (g *Signature) addArities(l []api.Arity) api.Errno {
	if len(l) > api.MaxItems {
		return api.ErrCount
	}
	g.arities = make(map[arityKey][][]string, len(l))
	for _, a := range l {
		if e := g.addArity(a); e != api.OK {
			return e
		}
	}
	return api.OK
}

func (g *Signature) addArity(a api.Arity) api.Errno {
	n, isType := g.numbers[a.Type]
	if _, isClass := g.classes[a.Class]; !isType || !isClass {
		return api.ErrMissing
	}
	key := arityKey{a.Type, a.Class}
	if _, ok := g.arities[key]; ok {
		return api.ErrDuplicate
	}
	if len(a.Sorts) != n {
		return api.ErrCount
	}
	sorts := make([][]string, n)
	for i, s := range a.Sorts {
		if len(s) > api.MaxSort {
			return api.ErrCount
		}
		if !g.Known(s) {
			return api.ErrMissing
		}
		if !g.IsNormal(s) {
			return api.ErrSort
		}
		sorts[i] = slices.Clone(s)
	}
	g.arities[key] = sorts
	return api.OK
}

// complete returns the error of arities for whose superclasses there are none, or narrower ones.
func (g *Signature) complete(l []api.Arity) api.Errno {
	if len(l) == 0 {
		return api.OK
	}
	names := make([]string, len(g.classes))
	for name, i := range g.classes {
		names[i] = name
	}
	for _, a := range l {
		for k := range g.upward(g.classes[a.Class]) {
			sorts, ok := g.arities[arityKey{a.Type, names[k]}]
			if !ok || !g.lessAll(a.Sorts, sorts) {
				return ErrRegular
			}
		}
	}
	return api.OK
}

// lessAll reports whether sorts are within others, one by one.
func (g Signature) lessAll(a, b [][]string) bool {
	for i := range a {
		if !g.Less(a[i], b[i]) {
			return false
		}
	}
	return true
}

// Known reports whether all classes of a sort exist.
func (g Signature) Known(s []string) bool {
	for _, c := range s {
		if _, ok := g.classes[c]; !ok {
			return false
		}
	}
	return true
}

// Less is the function Less.
func (g Signature) Less(a, b []string) bool {
	if !g.Known(a) || !g.Known(b) {
		return false
	}
	var up classSet
	for _, c := range a {
		up.addAll(g.above[g.classes[c]])
	}
	for _, c := range b {
		if !up.has(g.classes[c]) {
			return false
		}
	}
	return true
}

// IsNormal reports whether a sort, whose classes exist, is normal.
func (g Signature) IsNormal(s []string) bool {
	return slices.Equal(s, g.least(s))
}

// least returns the normal sort of classes that exist, however many they are.
func (g Signature) least(s []string) []string {
	l := slices.Clone(s)
	slices.SortFunc(l, strings.Compare)
	l = slices.Compact(l)
	var out []string
	for _, c := range l {
		if !g.hasBelow(l, c) {
			out = append(out, c)
		}
	}
	return out
}

// hasBelow reports whether one of some classes, other than c itself, is below c.
func (g Signature) hasBelow(l []string, c string) bool {
	k := g.classes[c]
	for _, d := range l {
		if n := g.classes[d]; n != k && g.above[n].has(k) {
			return true
		}
	}
	return false
}

// Normal is the function Normal.
func (g Signature) Normal(s []string) ([]string, api.Errno) {
	if len(s) > api.MaxSort {
		return nil, api.ErrCount
	}
	if !g.Known(s) {
		return nil, api.ErrMissing
	}
	return g.least(s), api.OK
}

// Meet is the function Meet.
func (g Signature) Meet(a, b []string) ([]string, api.Errno) {
	if _, e := g.Normal(a); e != api.OK {
		return nil, e
	}
	if _, e := g.Normal(b); e != api.OK {
		return nil, e
	}
	m := g.least(slices.Concat(a, b))
	if len(m) > api.MaxSort {
		return nil, api.ErrCount
	}
	return m, api.OK
}

// Number returns how many arguments a type constructor takes; false, if there is none of the name.
func (g Signature) Number(name string) (int, bool) {
	n, ok := g.numbers[name]
	return n, ok
}

// Args is the function Args.
func (g Signature) Args(name string, s []string) ([][]string, api.Errno) {
	if _, ok := g.numbers[name]; !ok {
		return nil, api.ErrMissing
	}
	if _, e := g.Normal(s); e != api.OK {
		return nil, e
	}
	l, ok := g.Wanted(name, s)
	if !ok {
		return nil, api.ErrSort
	}
	for _, a := range l {
		if len(a) > api.MaxSort {
			return nil, api.ErrCount
		}
	}
	return l, api.OK
}

// Wanted returns the sorts that the arguments of a type constructor that exists must have, so that the type has a sort of classes that exist; false, if it cannot have it.
// In contrast to Args the sorts may be of any length.
func (g Signature) Wanted(name string, s []string) ([][]string, bool) {
	l := make([][]string, g.numbers[name])
	for _, c := range s {
		sorts, ok := g.arities[arityKey{name, c}]
		if !ok {
			return nil, false
		}
		for i := range l {
			l[i] = append(l[i], sorts[i]...)
		}
	}
	for i := range l {
		l[i] = g.least(l[i])
	}
	return l, true
}
