package infer

import (
	"triforium/api"
	"triforium/sort"
	"triforium/term"
	"triforium/types"
)

// Form returns the error of a raw term: a term whose types may be zero (open), and in which constraints may stand.
func Form(raw api.Term) api.Errno {
	count := 0
	depth := measure(&raw, &count)
	if count > api.MaxTerm {
		return api.ErrCount
	}
	if depth > api.MaxDepth {
		return api.ErrDepth
	}
	return formBelow(&raw, 0)
}

// measure returns the depth of a term, and counts its nodes; of a term with too many nodes it looks at no more than one further, and the depth is any.
func measure(t *api.Term, count *int) int {
	depth := 0
	*count++
	for i := range t.Kids {
		if *count > api.MaxTerm {
			break
		}
		depth = max(depth, measure(&t.Kids[i], count))
	}
	return depth + 1
}

// formBelow returns the error of a raw term with some Abs around.
func formBelow(t *api.Term, around int) api.Errno {
	if !ownFields(t) || !typeFits(t) {
		return api.ErrForm
	}
	if t.Op == api.Bound && t.Num >= around {
		return term.ErrLoose
	}
	if t.Op == api.Abs {
		around++
	}
	for i := range t.Kids {
		if e := formBelow(&t.Kids[i], around); e != api.OK {
			return e
		}
	}
	return api.OK
}

// ownFields reports whether the kind of a node is one, it has as many Kids as this wants, and its other fields, but for its Type, are as they must be.
func ownFields(t *api.Term) bool {
	if t.Num < 0 {
		return false
	}
	kids, noName, noNum := len(t.Kids), t.Name == "", t.Num == 0
	switch t.Op {
	case api.Const, api.Free:
		return kids == 0 && noNum && sort.IsName(t.Name)
	case api.Var:
		return kids == 0 && sort.IsName(t.Name)
	case api.Bound:
		return kids == 0 && noName
	case api.Abs:
		return kids == 1 && noNum
	case api.App:
		return kids == 2 && noName && noNum
	case Constraint:
		return kids == 1 && noName && noNum
	}
	return false
}

// typeFits reports whether a node has a type only where it may, and has one where it must.
func typeFits(t *api.Term) bool {
	if isOpen(t.Type) {
		return t.Op != Constraint
	}
	return t.Op != api.Bound && t.Op != api.App && types.Form(t.Type) == api.OK
}

// isOpen reports whether a type is zero.
func isOpen(t api.Type) bool {
	return t.Op == 0 && t.Name == "" && t.Index == 0 && len(t.Sort) == 0 && len(t.Args) == 0
}
