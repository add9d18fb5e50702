package term

import (
	"triforium/api"
	"triforium/sort"
	"triforium/types"
)

// maxIndex is the greatest index of a schematic variable.
const maxIndex = 1000000

// formError returns the error of a term that has not the right form.
func formError(t api.Term) api.Errno {
	if e := sizeError(t); e != api.OK {
		return e
	}
	return formBelow(&t, 0)
}

// formBelow returns the error of a term with some Abs around.
func formBelow(t *api.Term, around int) api.Errno {
	if e := nodeForm(t, around); e != api.OK {
		return e
	}
	if t.Op == api.Abs {
		around++
	}
	for i := range t.Kids {
		if e := formBelow(&t.Kids[i], around); e != api.OK {
			return e
		}
	}
	return api.OK
}

func nodeForm(t *api.Term, around int) api.Errno {
	if !ownFields(t) || !nameFits(t) {
		return api.ErrForm
	}
	switch t.Op {
	case api.Var:
		if t.Num < 0 || t.Num > maxIndex {
			return api.ErrRange
		}
	case api.Bound:
		if t.Num < 0 || t.Num >= around {
			return ErrLoose
		}
		return api.OK
	case api.Abs:
		if len(t.Kids) != 1 {
			return api.ErrForm
		}
	case api.App:
		if len(t.Kids) != 2 {
			return api.ErrForm
		}
		return api.OK
	}
	return types.Form(t.Type)
}

// ownFields reports whether the kind of a node is one, and the fields that it does not name are zero.
func ownFields(t *api.Term) bool {
	switch t.Op {
	case api.Const, api.Free:
		return t.Num == 0 && len(t.Kids) == 0
	case api.Var:
		return len(t.Kids) == 0
	case api.Bound:
		return t.Name == "" && isNoType(t.Type) && len(t.Kids) == 0
	case api.Abs:
		return t.Num == 0
	case api.App:
		return t.Name == "" && t.Num == 0 && isNoType(t.Type)
	}
	return false
}

func isNoType(t api.Type) bool {
	return t.Op == 0 && t.Name == "" && t.Index == 0 && len(t.Sort) == 0 && len(t.Args) == 0
}

// nameFits reports whether a node, if it has a name, has one that its kind permits.
func nameFits(t *api.Term) bool {
	switch t.Op {
	case api.Const, api.Free, api.Var:
		return sort.IsName(t.Name)
	case api.Abs:
		return t.Name == "" || sort.IsName(t.Name)
	}
	return true
}

// Signature has the classes, type constructors, arities and constants of a theory that were found right.
// Check asks it; other layers keep one where they check many terms of one theory.
type Signature struct {
	sorts  sort.Signature
	consts map[string]api.Type
}

// Sign returns the signature of a theory, or the error of sort.Check, then that of its constants.
func Sign(thy api.Theory) (Signature, api.Errno) {
	g, e := sign(thy)
	for name, t := range g.consts {
		g.consts[name] = types.Copy(t)
	}
	return g, e
}

// sign is Sign, but its result shares memory with the theory.
func sign(thy api.Theory) (Signature, api.Errno) {
	s, e := sort.Sign(thy)
	if e != api.OK {
		return Signature{}, e
	}
	if len(thy.Consts) > api.MaxItems {
		return Signature{}, api.ErrCount
	}
	g := Signature{sorts: s, consts: make(map[string]api.Type, len(thy.Consts))}
	for _, c := range thy.Consts {
		if e := g.add(c); e != api.OK {
			return Signature{}, e
		}
	}
	return g, api.OK
}

func (g Signature) add(c api.ConstDecl) api.Errno {
	if !sort.IsName(c.Name) {
		return api.ErrForm
	}
	if _, ok := g.consts[c.Name]; ok {
		return api.ErrDuplicate
	}
	if e := types.CheckIn(g.sorts, c.Type); e != api.OK {
		return e
	}
	for n := range types.Nodes(c.Type) {
		if n.Op == api.TFree || n.Op == api.TVar && n.Index != 0 {
			return api.ErrForm
		}
	}
	g.consts[c.Name] = c.Type
	return api.OK
}

// Sorts returns the signature of the classes, type constructors and arities.
func (g Signature) Sorts() sort.Signature { return g.sorts }

// Const returns the declared type of a constant.
func (g Signature) Const(name string) (api.Type, bool) {
	t, ok := g.consts[name]
	return types.Copy(t), ok
}

// Check returns the type of a term of a theory, or its error.
func Check(thy api.Theory, t api.Term) (api.Type, api.Errno) {
	g, e := sign(thy)
	if e != api.OK {
		return api.Type{}, e
	}
	return g.Check(t)
}

// Check returns the type of a term of the theory, or its error.
func (g Signature) Check(t api.Term) (api.Type, api.Errno) {
	if e := formError(t); e != api.OK {
		return api.Type{}, e
	}
	for n := range Nodes(t) {
		if e := g.nodeFits(n); e != api.OK {
			return api.Type{}, e
		}
	}
	if e := oneSort(t); e != api.OK {
		return api.Type{}, e
	}
	if e := oneType(t); e != api.OK {
		return api.Type{}, e
	}
	return wholeType(t)
}

// nodeFits returns the error of a node of the right form in the theory.
func (g Signature) nodeFits(t api.Term) api.Errno {
	if t.Op == api.Bound || t.Op == api.App {
		return api.OK
	}
	if e := types.Fits(g.sorts, t.Type); e != api.OK {
		return e
	}
	if t.Op != api.Const {
		return api.OK
	}
	declared, ok := g.consts[t.Name]
	if !ok {
		return api.ErrMissing
	}
	if types.Equal(declared, t.Type) {
		return api.OK
	}
	if _, e := types.MatchIn(g.sorts, declared, t.Type, nil); e != api.OK {
		return api.ErrType
	}
	return api.OK
}

// oneSort returns api.ErrSort, if a type variable has two sorts.
func oneSort(l ...api.Term) api.Errno {
	var s types.Sorts
	for _, t := range l {
		for n := range Nodes(t) {
			if e := s.Add(n.Type); e != api.OK {
				return e
			}
		}
	}
	return api.OK
}

// oneType returns api.ErrType, if a variable has two types.
func oneType(l ...api.Term) api.Errno {
	var met map[key]api.Type
	for _, t := range l {
		for n := range Nodes(t) {
			if n.Op != api.Free && n.Op != api.Var {
				continue
			}
			if met == nil {
				met = map[key]api.Type{}
			}
			old, ok := met[keyOf(n)]
			if !ok {
				met[keyOf(n)] = n.Type
			} else if !types.Equal(old, n.Type) {
				return api.ErrType
			}
		}
	}
	return api.OK
}

// Agree returns api.ErrSort, if a type variable has two sorts in some terms together; and then api.ErrType, if a Free, or a Var, has two types.
func Agree(l []api.Term) api.Errno {
	if e := oneSort(l...); e != api.OK {
		return e
	}
	return oneType(l...)
}

// TypeOf returns the type of a term by the types of its variables and constants alone.
func TypeOf(t api.Term) (api.Type, api.Errno) {
	if e := formError(t); e != api.OK {
		return api.Type{}, e
	}
	return wholeType(t)
}

// wholeType returns the type of a term of the right form, in new memory.
func wholeType(t api.Term) (api.Type, api.Errno) {
	k, ok := typeWithin(t, nil)
	if !ok {
		return api.Type{}, api.ErrType
	}
	return types.Copy(k), api.OK
}

// typeWithin returns the type of a term within abstractions of some types, the outermost one first.
func typeWithin(t api.Term, around []api.Type) (api.Type, bool) {
	switch t.Op {
	case api.Bound:
		return around[len(around)-1-t.Num], true
	case api.Abs:
		body, ok := typeWithin(t.Kids[0], append(around, t.Type))
		return api.Type{Op: api.TCon, Name: "fun", Args: []api.Type{t.Type, body}}, ok
	case api.App:
		return typeOfApp(t, around)
	}
	return t.Type, true
}

func typeOfApp(t api.Term, around []api.Type) (api.Type, bool) {
	f, ok := typeWithin(t.Kids[0], around)
	if !ok || !types.IsFun(f) {
		return api.Type{}, false
	}
	a, ok := typeWithin(t.Kids[1], around)
	if !ok || !types.Equal(f.Args[0], a) {
		return api.Type{}, false
	}
	return f.Args[1], true
}
