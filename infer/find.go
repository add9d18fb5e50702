package infer

import (
	"iter"
	"strconv"

	"triforium/api"
	"triforium/term"
	"triforium/types"
)

// given yields the types that are given: of what is known, of the nodes of raw terms, and those that are wanted.
func given(known []Known, raw []api.Term, want []api.Type) iter.Seq[api.Type] {
	return func(yield func(api.Type) bool) {
		for _, k := range known {
			if !yield(k.Type) {
				return
			}
		}
		for _, t := range raw {
			for n := range term.Nodes(t) {
				if !isOpen(n.Type) && !yield(n.Type) {
					return
				}
			}
		}
		for _, t := range want {
			if !isOpen(t) && !yield(t) {
				return
			}
		}
	}
}

// givenError returns the error of given types.
func givenError(g term.Signature, known []Known, raw []api.Term, want []api.Type) api.Errno {
	for t := range given(known, raw, want) {
		if e := types.CheckIn(g.Sorts(), t); e != api.OK {
			return e
		}
	}
	var s types.Sorts
	for t := range given(known, raw, want) {
		if e := s.Add(t); e != api.OK {
			return e
		}
	}
	return api.OK
}

// variable is what tells a variable of terms from others.
type variable struct {
	op   int
	name string
	num  int
}

// finder finds the types of raw terms. It panics with the first error.
type finder struct {
	sign  term.Signature
	u     *types.Unifier
	names map[variable]api.Type // the types of the variables that have none of their own
	found []api.Type            // of the nodes so far that have one, in order
}

// find returns the types of the nodes of raw terms that have one, term by term, a node ahead of its Kids. The terms and the given types are right.
// The types may share memory.
func find(g term.Signature, known []Known, raw []api.Term, want []api.Type) (l []api.Type, err api.Errno) {
	defer func() {
		if r := recover(); r != nil {
			l, err = nil, errorOf(r)
		}
	}()
	f := &finder{sign: g, u: types.NewUnifier(g.Sorts()), names: map[variable]api.Type{}}
	for _, k := range known {
		v := variable{api.Free, k.Name, 0}
		if _, ok := f.names[v]; !ok {
			f.names[v] = k.Type
		}
	}
	for i := range raw {
		t := f.term(&raw[i])
		if !isOpen(want[i]) {
			f.must(t, want[i])
		}
	}
	for i, t := range f.found {
		f.found[i] = f.u.Apply(t)
	}
	return f.named(given(known, raw, want)), api.OK
}

// errorOf returns the code with which a function was left.
func errorOf(r any) api.Errno {
	if e, ok := r.(api.Errno); ok {
		return e
	}
	return api.ErrType
}

// must makes two types equal.
func (f *finder) must(a, b api.Type) {
	switch e := f.u.Unify(a, b); e {
	case api.OK:
	case api.ErrFail, types.ErrOccurs:
		panic(api.ErrType)
	default:
		panic(e)
	}
}

// term finds the types of a raw term, and returns its own one.
func (f *finder) term(t *api.Term) api.Type {
	var around []api.Type
	var walk func(t *api.Term) api.Type
	walk = func(t *api.Term) api.Type {
		switch t.Op {
		case api.Const:
			return f.keep(f.constant(t))
		case api.Free, api.Var:
			return f.keep(f.variable(t))
		case api.Bound:
			return around[len(around)-1-t.Num]
		case api.Abs:
			v := f.keep(f.own(t))
			around = append(around, v)
			body := walk(&t.Kids[0])
			around = around[:len(around)-1]
			return arrow(v, body)
		case api.App:
			fun := walk(&t.Kids[0])
			arg := walk(&t.Kids[1])
			result := f.u.New()
			f.must(fun, arrow(arg, result))
			return result
		}
		kid := walk(&t.Kids[0])
		f.must(kid, t.Type)
		return kid
	}
	return walk(t)
}

// arrow is types.Fun, but shares memory with its arguments.
func arrow(a, b api.Type) api.Type {
	return api.Type{Op: api.TCon, Name: "fun", Args: []api.Type{a, b}}
}

func (f *finder) keep(t api.Type) api.Type {
	f.found = append(f.found, t)
	return t
}

// constant returns the type of a constant: an instance of the declared one.
func (f *finder) constant(t *api.Term) api.Type {
	declared, ok := f.sign.Const(t.Name)
	if !ok {
		panic(ErrUnknown)
	}
	instance := f.u.Instance(declared)
	if isOpen(t.Type) {
		return instance
	}
	f.must(instance, t.Type)
	return t.Type
}

// own returns the type that a node has, or a new variable.
func (f *finder) own(t *api.Term) api.Type {
	if isOpen(t.Type) {
		return f.u.New()
	}
	return t.Type
}

// variable returns the type of a variable that is not bound: its own one, or that of all those of its name.
func (f *finder) variable(t *api.Term) api.Type {
	if !isOpen(t.Type) {
		return t.Type
	}
	v := variable{t.Op, t.Name, t.Num}
	if _, ok := f.names[v]; !ok {
		f.names[v] = f.u.New()
	}
	return f.names[v]
}

// named returns the types that were found, in which the variables that are left have become TFrees, with names that those of given types have not.
func (f *finder) named(given iter.Seq[api.Type]) []api.Type {
	left := f.left()
	if len(left) == 0 {
		return f.found
	}
	taken := map[string]bool{}
	for t := range given {
		for n := range types.Nodes(t) {
			if n.Op == api.TFree {
				taken[n.Name] = true
			}
		}
	}
	var binds []api.TypeBind
	for name := range typeNames() {
		if len(binds) == len(left) {
			break
		}
		if taken[name] {
			continue
		}
		v := left[len(binds)]
		binds = append(binds, api.TypeBind{Name: v.Name, Index: v.Index, To: api.Type{Op: api.TFree, Name: name, Sort: v.Sort}})
	}
	x := types.NewInstance(binds)
	for i, t := range f.found {
		f.found[i] = x.Apply(t)
	}
	return f.found
}

// left returns the variables that are left, in the order in which they stand first.
func (f *finder) left() []api.Type {
	var out []api.Type
	seen := map[string]map[int]bool{}
	for _, t := range f.found {
		for n := range types.Nodes(t) {
			if !f.u.IsNew(n) || seen[n.Name][n.Index] {
				continue
			}
			if seen[n.Name] == nil {
				seen[n.Name] = map[int]bool{}
			}
			seen[n.Name][n.Index] = true
			out = append(out, n)
		}
	}
	return out
}

// typeNames yields the names of types: a to z, a1 to z1, and so on.
func typeNames() iter.Seq[string] {
	return func(yield func(string) bool) {
		for round := 0; ; round++ {
			number := ""
			if round > 0 {
				number = strconv.Itoa(round)
			}
			for c := range 26 {
				if !yield(string(rune('a'+c)) + number) {
					return
				}
			}
		}
	}
}
