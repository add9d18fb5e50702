// Package sort is layer 1: classes and sorts. See shared/doc/01-sort.md.
package sort

import "triforium/api"

// Codes of layer 1.
const (
	ErrName    api.Errno = 30 // a name that is none
	ErrRegular api.Errno = 31 // arities that are not complete for superclasses
)

// IsName reports whether a text is a name.
func IsName(s string) bool {
	if len(s) == 0 || len(s) > api.MaxName || !beginsName(s[0]) {
		return false
	}
	for i := 1; i < len(s); i++ {
		if !InName(s[i]) {
			return false
		}
	}
	return true
}

// beginsName reports whether a byte may be the first one of a name.
func beginsName(b byte) bool {
	return 'a' <= b && b <= 'z' || 'A' <= b && b <= 'Z' || b == '_'
}

// InName reports whether a byte may stand in a name, behind the first one.
func InName(b byte) bool {
	return beginsName(b) || '0' <= b && b <= '9' || b == '\'' || b == '.'
}

// Check returns the error of the classes, type constructors and arities of a theory.
func Check(t api.Theory) api.Errno {
	_, e := Sign(t)
	return e
}

// Below reports whether a class is another one, or below it.
func Below(t api.Theory, a, b string) bool {
	return Less(t, []string{a}, []string{b})
}

// Less reports whether a sort is within another one: whatever has the first one has the second one.
func Less(t api.Theory, a, b []string) bool {
	g, e := signClasses(t.Classes)
	return e == api.OK && g.Less(a, b)
}

// Normal returns the least classes of a sort, ascending.
func Normal(t api.Theory, s []string) ([]string, api.Errno) {
	g, e := signClasses(t.Classes)
	if e != api.OK {
		return nil, e
	}
	return g.Normal(s)
}

// Meet returns the sort of what has both sorts.
func Meet(t api.Theory, a, b []string) ([]string, api.Errno) {
	g, e := signClasses(t.Classes)
	if e != api.OK {
		return nil, e
	}
	return g.Meet(a, b)
}

// Args returns the sorts that the arguments of a type constructor must have, so that the type has a sort.
func Args(t api.Theory, name string, s []string) ([][]string, api.Errno) {
	g, e := Sign(t)
	if e != api.OK {
		return nil, e
	}
	return g.Args(name, s)
}

// Ground returns the first type without variables that has a sort, up to a depth.
func Ground(t api.Theory, s []string, depth int) (api.Type, bool, api.Errno) {
	g, e := Sign(t)
	if e != api.OK {
		return api.Type{}, false, e
	}
	n, e := g.Normal(s)
	if e != api.OK {
		return api.Type{}, false, e
	}
	if depth < 0 || depth > maxGround {
		return api.Type{}, false, api.ErrRange
	}
	x, ok := newGrounder(g).first(n, depth)
	return copyType(x), ok, api.OK
}
