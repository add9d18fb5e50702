package model

import (
	"slices"

	"triforium/api"
	"triforium/term"
	"triforium/theory"
	"triforium/types"
)

const (
	maxParam  = 40 // bytes of the name of a parameter
	maxCases  = 20 // of a carrier
	maxFields = 6  // of a case
	maxNodes  = 50 // of a type in a model
)

// world is a right theory with a right model of it.
type world struct {
	language
	carriers map[string]Carrier
	meanings map[string]Meaning
	ground   []int // the types over which type variables range
	m        Model
	checked  map[string]bool // constants all of which is in the model, also what they are defined by
	*atlas
}

// language is what a model is asked of a theory.
type language struct {
	thy         api.Theory
	sign        term.Signature
	types       map[string]int      // how many arguments type constructors take
	consts      map[string]api.Type // the declared types
	known       map[string]int      // how many arguments the known constants take
	definitions map[string][]definition
}

// definition is a definition of a constant: the type at which it is defined, and what it is there.
type definition struct {
	at    api.Type
	right api.Term
}

// newLanguage panics with api.ErrTheory for a theory that has an error.
func newLanguage(thy api.Theory) language {
	g, e := theory.Sign(thy)
	want(e == api.OK, api.ErrTheory)
	l := language{thy: thy, sign: g, types: map[string]int{}, consts: map[string]api.Type{}, definitions: map[string][]definition{}}
	for _, d := range thy.Types {
		l.types[d.Name] = d.Arity
	}
	for _, c := range thy.Consts {
		l.consts[c.Name] = c.Type
	}
	l.known = knownIn(l.consts)
	for _, x := range thy.Axioms {
		if x.Kind == api.Defining {
			left, right, _ := term.IsEq(x.Prop)
			l.definitions[left.Name] = append(l.definitions[left.Name], definition{left.Type, right})
		}
	}
	return l
}

// isGiven reports whether a model has to give a constant of the theory a meaning.
func (l language) isGiven(name string) bool {
	_, known := l.known[name]
	return !known && len(l.definitions[name]) == 0
}

// newWorld panics with api.ErrTheory, or ErrModel, if the theory, or the model, is not right.
func newWorld(thy api.Theory, m Model) *world {
	return newLanguage(thy).with(m)
}

// with returns the world of a model of the theory, or panics with ErrModel.
func (l language) with(m Model) *world {
	w := &world{language: l, carriers: map[string]Carrier{}, meanings: map[string]Meaning{}, m: m, checked: map[string]bool{}}
	w.atlas = newAtlas(w)
	for _, c := range m.Carriers {
		w.addCarrier(c)
	}
	want(len(m.Ground) <= MaxGround, ErrModel)
	for _, t := range m.Ground {
		w.ground = append(w.ground, w.checkGround(t))
	}
	for _, x := range m.Meanings {
		w.addMeaning(x)
	}
	return w
}

func (w *world) addCarrier(c Carrier) {
	arity, ok := w.types[c.Name]
	_, again := w.carriers[c.Name]
	want(ok && !again && !slices.Contains([]string{"fun", "prop", "bool"}, c.Name), ErrModel)
	want(len(c.Params) == arity && len(c.Cases) >= 1 && len(c.Cases) <= maxCases, ErrModel)
	for i, p := range c.Params {
		want(isParam(p) && !slices.Contains(c.Params[:i], p), ErrModel)
	}
	for _, fields := range c.Cases {
		want(len(fields) <= maxFields, ErrModel)
		for _, t := range fields {
			want(isShort(t) && w.isMade(t, c.Params), ErrModel)
		}
	}
	w.carriers[c.Name] = c
}

// isParam reports whether a text is a name: that of a type variable.
func isParam(s string) bool {
	return len(s) <= maxParam && types.Form(api.Type{Op: api.TFree, Name: s}) == api.OK
}

// isShort reports whether a type has few enough nodes for a model.
func isShort(t api.Type) bool {
	n := 0
	for range types.Nodes(t) {
		n++
		if n > maxNodes {
			return false
		}
	}
	return true
}

// isMade reports whether a type is made of some TFrees, and of type constructors whose elements are known.
func (w *world) isMade(t api.Type, params []string) bool {
	if t.Index != 0 || len(t.Sort) > 0 {
		return false
	}
	if t.Op == api.TFree {
		return len(t.Args) == 0 && slices.Contains(params, t.Name)
	}
	if t.Op != api.TCon || !w.hasElements(t.Name) || w.types[t.Name] != len(t.Args) {
		return false
	}
	for _, a := range t.Args {
		if !w.isMade(a, params) {
			return false
		}
	}
	return true
}

// hasElements reports whether the elements of a type constructor are known, so far.
func (w *world) hasElements(name string) bool {
	_, ok := w.carriers[name]
	if name == "bool" {
		n, is := w.types[name]
		return is && n == 0
	}
	return ok || name == "fun" || name == "prop"
}

// checkGround returns a type made as those of Ground, or panics.
func (w *world) checkGround(t api.Type) int {
	want(isShort(t) && w.isMade(t, nil), ErrModel)
	id := w.intern(t, nil)
	want(w.size(id) <= MaxSize, ErrModel)
	return id
}

func (w *world) addMeaning(x Meaning) {
	declared, ok := w.consts[x.Name]
	_, again := w.meanings[x.Name]
	want(ok && !again && w.isGiven(x.Name), ErrModel)
	if x.How == Table {
		id := w.checkGround(declared)
		want(x.Value >= 0 && uint64(x.Value) < w.size(id) && x.Type == "" && x.Case == 0 && x.Field == 0, ErrModel)
	} else {
		want(w.isOfCarrier(x, declared), ErrModel)
	}
	w.meanings[x.Name] = x
}

// isOfCarrier reports whether a meaning is right that is none of a Table.
func (w *world) isOfCarrier(x Meaning, declared api.Type) bool {
	c, ok := w.carriers[x.Type]
	if !ok || x.Case < 0 || x.Case >= len(c.Cases) || x.Value != 0 {
		return false
	}
	if x.How != Part && x.Field != 0 {
		return false
	}
	self := selfType(c)
	var wanted api.Type
	switch x.How {
	case Maker:
		wanted = functions(c.Cases[x.Case], self)
	case Chooser:
		if x.Case != 0 {
			return false
		}
		wanted = chooserType(c, self)
	case Part:
		if x.Field < 0 || x.Field >= len(c.Cases[x.Case]) {
			return false
		}
		wanted = types.Fun(self, c.Cases[x.Case][x.Field])
	default:
		return false
	}
	return isRenamed(wanted, declared, map[string]string{}, map[string]string{})
}

// selfType returns the type constructor of a carrier, applied to its parameters.
func selfType(c Carrier) api.Type {
	t := api.Type{Op: api.TCon, Name: c.Name}
	for _, p := range c.Params {
		t.Args = append(t.Args, api.Type{Op: api.TFree, Name: p})
	}
	return t
}

// functions returns the type of functions from some types to another one.
func functions(from []api.Type, to api.Type) api.Type {
	for _, t := range slices.Backward(from) {
		to = types.Fun(t, to)
	}
	return to
}

// chooserType returns the type of the case combinator of a carrier. What it gives is of a variable that is no parameter, as it has no name.
func chooserType(c Carrier, self api.Type) api.Type {
	r := api.Type{Op: api.TFree}
	var from []api.Type
	for _, fields := range c.Cases {
		from = append(from, functions(fields, r))
	}
	return functions(append(from, self), r)
}

// isRenamed reports whether a declared type is a type but for the names of variables: TVars without sorts in the one for TFrees in the other one.
func isRenamed(t, declared api.Type, there, back map[string]string) bool {
	if t.Op == api.TFree {
		if declared.Op != api.TVar || len(declared.Sort) > 0 {
			return false
		}
		name, ok := there[t.Name]
		old, ok2 := back[declared.Name]
		there[t.Name], back[declared.Name] = declared.Name, t.Name
		return (!ok || name == declared.Name) && (!ok2 || old == t.Name)
	}
	if declared.Op != api.TCon || declared.Name != t.Name {
		return false
	}
	same := func(a, b api.Type) bool { return isRenamed(a, b, there, back) }
	return slices.EqualFunc(t.Args, declared.Args, same)
}

// closeType panics with ErrModel, if a right type has a type constructor without elements.
func (w *world) closeType(t api.Type) {
	for n := range types.Nodes(t) {
		want(n.Op != api.TCon || w.hasElements(n.Name), ErrModel)
	}
}

// closeTerm panics with ErrModel, if a right term has a type constructor without elements, or a constant without a meaning, or if what these are defined by has one.
func (w *world) closeTerm(t api.Term) {
	for n := range term.Nodes(t) {
		w.closeType(n.Type)
		if n.Op != api.Const || w.checked[n.Name] {
			continue
		}
		w.checked[n.Name] = true
		if _, ok := w.known[n.Name]; ok {
			continue
		}
		_, ok := w.meanings[n.Name]
		want(ok || !w.isGiven(n.Name), ErrModel)
		for _, d := range w.definitions[n.Name] {
			w.closeTerm(d.right)
		}
	}
}

// given returns a type that was given, or panics with its error.
func (w *world) given(t api.Type) int {
	must(types.CheckIn(w.sign.Sorts(), t))
	w.closeType(t)
	want(len(types.Variables(t)) == 0, ErrFree)
	return w.intern(t, nil)
}

// small returns the size of a type, or panics, if it is too large.
func (w *world) small(id int) int {
	n := w.size(id)
	want(n <= MaxSize, api.ErrLarge)
	return int(n)
}
