package pattern

import (
	"maps"
	"slices"

	"triforium/api"
	"triforium/term"
	"triforium/types"
)

// State is where a unification stands: binds of type variables and of variables, and the index of the next new variable.
// Layer 10 goes on from states in more than one way; its terms are beta-normal, too, but need be no patterns. All terms have the types that binds make of those in them.
type State struct {
	sign  term.Signature
	next  int
	types typeBinds
	terms map[key]api.TermBind // each of them applied to all others
	users map[key][]key        // of a variable those in whose terms it is, or was
}

// Start returns the state at the beginning, for pairs of right terms of a theory.
func Start(sign term.Signature, l []Pair) *State {
	s := &State{sign: sign, types: typeBinds{}, terms: map[key]api.TermBind{}, users: map[key][]key{}}
	for _, t := range terms(l) {
		s.next = max(s.next, term.MaxIndex(t)+1)
	}
	return s
}

// Copy returns a state that is like another one, and changes on its own.
func (s *State) Copy() *State {
	c := *s
	c.types, c.terms, c.users = maps.Clone(s.types), maps.Clone(s.terms), maps.Clone(s.users)
	return &c
}

// errorOf returns the code with which a function was left.
func errorOf(r any) api.Errno {
	if e, ok := r.(api.Errno); ok {
		return e
	}
	return api.ErrFail
}

// want fails, if something that is wanted is not there.
func want(ok bool) {
	if !ok {
		panic(api.ErrFail)
	}
}

// caught returns the error with which a function leaves.
func caught(f func()) (err api.Errno) {
	defer func() {
		if r := recover(); r != nil {
			err = errorOf(r)
		}
	}()
	f()
	return api.OK
}

// WholeTypes unifies the types of the two terms of each pair, in order.
func (s *State) WholeTypes(l []Pair) api.Errno {
	return caught(func() { s.wholeTypes(l) })
}

func (s *State) wholeTypes(l []Pair) {
	for _, p := range l {
		a, e := term.TypeOf(p.A)
		want(e == api.OK)
		b, e := term.TypeOf(p.B)
		want(e == api.OK)
		s.unifyTypes(a, b)
	}
}

// UnifyTypes unifies what binds make of two types.
func (s *State) UnifyTypes(a, b api.Type) api.Errno {
	return caught(func() { s.unifyTypes(a, b) })
}

func (s *State) unifyTypes(a, b api.Type) {
	a, ok := s.types.apply(a)
	want(ok)
	b, ok = s.types.apply(b)
	want(ok)
	l, next, e := types.UnifyIn(s.sign.Sorts(), a, b, s.next)
	want(e == api.OK)
	s.next = next
	s.types.put(l)
}

// TypeNow returns what binds make of a type: api.ErrLarge, if it is too large.
func (s *State) TypeNow(t api.Type) (api.Type, api.Errno) {
	now, ok := s.types.apply(t)
	if !ok {
		return api.Type{}, api.ErrLarge
	}
	return now, api.OK
}

// Arguments returns the types of the first n arguments of a term of a type, and the type of it applied to them.
func (s *State) Arguments(t api.Type, n int) (args []api.Type, result api.Type, err api.Errno) {
	err = caught(func() { args, result = s.arguments(t, n) })
	return args, result, err
}

func (s *State) arguments(t api.Type, n int) ([]api.Type, api.Type) {
	args := make([]api.Type, n)
	for i := range args {
		if b, ok := s.types.find(&t); ok {
			t = b.To
		}
		want(types.IsFun(t))
		args[i] = t.Args[0]
		t = t.Args[1]
	}
	return args, t
}

// New returns a new variable, of the type of functions from some types to another one.
func (s *State) New(args []api.Type, result api.Type) api.Term {
	v := api.Term{Op: api.Var, Name: "H", Num: s.next, Type: function(args, result)}
	s.next++
	return v
}

// BindOf returns the term to which a variable is bound, as all binds make it.
func (s *State) BindOf(v api.Term) (api.Term, bool) {
	b, ok := s.terms[varKey(v)]
	return b.To, ok
}

// now returns what binds make of a beta-normal term, in its beta-normal form.
func (s *State) now(t api.Term) api.Term {
	if len(s.terms) == 0 {
		return t
	}
	i := instance{&reducer{}, s.terms}
	now, _ := i.apply(t)
	return now
}

// headNow is now, but not of the arguments, if the head is no variable that is bound.
func (s *State) headNow(t api.Term) api.Term {
	head, args := spine(t)
	if head.Op != api.Var {
		return t
	}
	b, ok := s.terms[varKey(head)]
	if !ok {
		return t
	}
	i := instance{&reducer{}, s.terms}
	args, _ = i.applyAll(args)
	return i.reducer.apply(b.To, args)
}

// instance puts the terms of binds into terms.
type instance struct {
	*reducer
	terms map[key]api.TermBind
}

// apply returns what becomes of a term, and whether it changes.
func (i instance) apply(t api.Term) (api.Term, bool) {
	head, args := spine(t)
	if head.Op == api.Abs {
		body, changed := i.apply(head.Kids[0])
		if !changed {
			return t, false
		}
		i.count(1)
		head.Kids = []api.Term{body}
		return head, true
	}
	args, changed := i.applyAll(args)
	if head.Op == api.Var {
		if b, ok := i.terms[varKey(head)]; ok {
			return i.reducer.apply(b.To, args), true
		}
	}
	if !changed {
		return t, false
	}
	i.count(len(args))
	return apps(head, args), true
}

func (i instance) applyAll(l []api.Term) ([]api.Term, bool) {
	some := false
	for k, t := range l {
		now, changed := i.apply(t)
		if changed {
			l[k] = now // spine has made this list
			some = true
		}
	}
	return l, some
}

// Bind binds a variable to a closed term, which is beta-normal as binds make it and does not have the variable, and puts it into all other binds: api.ErrLarge, if one of them is too large then.
func (s *State) Bind(v, to api.Term) api.Errno {
	return caught(func() { s.bind(v, to) })
}

func (s *State) bind(v, to api.Term) {
	checkSize(to)
	k := varKey(v)
	s.terms[k] = api.TermBind{Name: v.Name, Index: v.Num, To: to}
	users := s.users[k]
	delete(s.users, k)
	var changed []key
	i := instance{&reducer{}, s.terms}
	for _, u := range users {
		b := s.terms[u]
		now, ok := i.apply(b.To)
		if !ok {
			continue
		}
		checkSize(now)
		b.To = now
		s.terms[u] = b
		changed = append(changed, u)
	}
	met := map[key]bool{}
	for p := range places(to) {
		w := varKey(p.v)
		if !met[w] {
			met[w] = true
			s.users[w] = slices.Concat(s.users[w], []key{k}, changed)
		}
	}
}

// checkSize leaves, if a term of a bind is too large.
func checkSize(t api.Term) {
	if nodes, depth := term.Size(t); nodes > api.MaxTerm || depth > api.MaxDepth {
		panic(api.ErrLarge)
	}
}

// Inst returns the binds of type variables, and those of the variables of pairs, by names and then indices: api.ErrLarge, if something in them is too large.
func (s *State) Inst(l []Pair) (i api.Inst, err api.Errno) {
	err = caught(func() { i = s.inst(l) })
	return i, err
}

func (s *State) inst(l []Pair) api.Inst {
	var i api.Inst
	for _, b := range ordered(s.types, typeBound) {
		if tooLarge(b.nodes, b.depth) {
			panic(api.ErrLarge)
		}
		b.To = types.Copy(b.To)
		i.Types = append(i.Types, b.TypeBind)
	}
	known := map[key]api.TermBind{}
	for _, t := range terms(l) {
		for _, v := range term.Vars(t) {
			if b, ok := s.terms[varKey(v)]; ok {
				known[varKey(v)] = b
			}
		}
	}
	for _, b := range ordered(known, termBound) {
		b.To = s.final(b.To)
		i.Terms = append(i.Terms, b)
	}
	return i
}

// Final returns a term, as binds of variables make it, in new memory with the types that binds make of those in it: api.ErrLarge, if it, or a type in it, is too large.
func (s *State) Final(t api.Term) (out api.Term, err api.Errno) {
	err = caught(func() { out = s.final(t) })
	return out, err
}

func (s *State) final(t api.Term) api.Term {
	checkSize(t)
	return term.Copy(s.typed(t))
}

// typed returns a term with the types that binds make of those in it.
func (s *State) typed(t api.Term) api.Term {
	if t.Type.Op != 0 {
		now, ok := s.types.apply(t.Type)
		if !ok {
			panic(api.ErrLarge)
		}
		t.Type = now
	}
	if len(t.Kids) == 0 {
		return t
	}
	kids := make([]api.Term, len(t.Kids))
	for i, k := range t.Kids {
		kids[i] = s.typed(k)
	}
	t.Kids = kids
	return t
}
