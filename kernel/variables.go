package kernel

import (
	"slices"

	"triforium/api"
	"triforium/types"
)

// variable is what tells a variable, of types or terms, from others, but for its sort or type.
type variable struct {
	kind  int // of the type, or of the term
	name  string
	index int
}

// variables has the sorts and types of the variables that were met, and whether one was met with two.
type variables struct {
	sorts              map[variable][]string
	types              map[variable]*api.Type
	twoSorts, twoTypes bool
}

func typeVariable(t *api.Type) variable { return variable{t.Op, t.Name, t.Index} }

func termVariable(t *api.Term) variable { return variable{t.Op, t.Name, t.Num} }

// addSequent meets the variables of hypotheses and of a proposition.
func (v *variables) addSequent(s *sequent) {
	for i := range s.hyps {
		v.addTerm(&s.hyps[i])
	}
	v.addTerm(&s.prop)
}

func (v *variables) addTerm(t *api.Term) {
	v.addType(&t.Type)
	if t.Op == api.Free || t.Op == api.Var {
		v.meet(t)
	}
	for i := range t.Kids {
		v.addTerm(&t.Kids[i])
	}
}

func (v *variables) meet(t *api.Term) {
	if v.types == nil {
		v.types = map[variable]*api.Type{}
	}
	k := termVariable(t)
	old, ok := v.types[k]
	if !ok {
		v.types[k] = &t.Type
	} else if old != &t.Type && !types.Equal(*old, t.Type) {
		v.twoTypes = true
	}
}

func (v *variables) addType(t *api.Type) {
	if t.Op == api.TFree || t.Op == api.TVar {
		v.meetType(t)
	}
	for i := range t.Args {
		v.addType(&t.Args[i])
	}
}

func (v *variables) meetType(t *api.Type) {
	if v.sorts == nil {
		v.sorts = map[variable][]string{}
	}
	k := typeVariable(t)
	old, ok := v.sorts[k]
	if !ok {
		v.sorts[k] = t.Sort
	} else if !slices.Equal(old, t.Sort) {
		v.twoSorts = true
	}
}

// check panics, if a type variable was met with two sorts, or a variable with two types.
func (v *variables) check() {
	want(!v.twoSorts, api.ErrSort)
	want(!v.twoTypes, api.ErrType)
}
