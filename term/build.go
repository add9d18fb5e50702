package term

import (
	"slices"

	"triforium/api"
	"triforium/types"
)

// applying returns a function that applies a constant to terms.
func applying(name string, t api.Type) func(...api.Term) api.Term {
	return func(l ...api.Term) api.Term {
		return Apps(api.Term{Op: api.Const, Name: name, Type: t}, l)
	}
}

// Imp, All, Eq and Protect build propositions; All binds a fixed variable.
func Imp(a, b api.Term) api.Term {
	prop := types.Prop()
	return applying("imp", types.Fun(prop, types.Fun(prop, prop)))(a, b)
}

func All(x, t api.Term) api.Term {
	prop := types.Prop()
	abs := api.Term{Op: api.Abs, Name: x.Name, Type: x.Type, Kids: []api.Term{Bind(x, t)}}
	return applying("all", types.Fun(types.Fun(x.Type, prop), prop))(abs)
}

func Eq(a, b api.Term) (api.Term, api.Errno) {
	t, e := TypeOf(a)
	if e != api.OK {
		return api.Term{}, e
	}
	u, e := TypeOf(b)
	if e != api.OK {
		return api.Term{}, e
	}
	if !types.Equal(t, u) {
		return api.Term{}, api.ErrType
	}
	return applying("eq", types.Fun(t, types.Fun(t, types.Prop())))(a, b), api.OK
}

func Protect(t api.Term) api.Term {
	prop := types.Prop()
	return applying("protect", types.Fun(prop, prop))(t)
}

// argument returns the argument of a constant that is applied to one.
func argument(t api.Term, name string) (api.Term, bool) {
	if !isApp(t) || t.Kids[0].Op != api.Const || t.Kids[0].Name != name {
		return api.Term{}, false
	}
	return t.Kids[1], true
}

// arguments returns the arguments of a constant that is applied to two.
func arguments(t api.Term, name string) (a, b api.Term, ok bool) {
	if !isApp(t) {
		return api.Term{}, api.Term{}, false
	}
	a, ok = argument(t.Kids[0], name)
	if !ok {
		return api.Term{}, api.Term{}, false
	}
	return a, t.Kids[1], true
}

// IsImp, IsAll, IsEq and IsProtect take propositions apart; of IsAll it is the abstraction.
func IsImp(t api.Term) (a, b api.Term, ok bool) {
	a, b, ok = arguments(t, "imp")
	return Copy(a), Copy(b), ok
}

func IsAll(t api.Term) (api.Term, bool) {
	a, ok := argument(t, "all")
	if !ok || a.Op != api.Abs {
		return api.Term{}, false
	}
	return Copy(a), true
}

func IsEq(t api.Term) (a, b api.Term, ok bool) {
	a, b, ok = arguments(t, "eq")
	return Copy(a), Copy(b), ok
}

func IsProtect(t api.Term) (api.Term, bool) {
	a, ok := argument(t, "protect")
	return Copy(a), ok
}

// Strip returns the premises and the conclusion of a proposition.
func Strip(t api.Term) ([]api.Term, api.Term) {
	var l []api.Term
	for {
		a, b, ok := arguments(t, "imp")
		if !ok {
			return l, Copy(t)
		}
		l = append(l, Copy(a))
		t = b
	}
}

// Spine returns the head of applications and its arguments; Apps applies a head to arguments.
func Spine(t api.Term) (api.Term, []api.Term) {
	var l []api.Term
	for isApp(t) {
		l = append(l, Copy(t.Kids[1]))
		t = t.Kids[0]
	}
	slices.Reverse(l)
	return Copy(t), l
}

func Apps(f api.Term, l []api.Term) api.Term {
	f = Copy(f)
	for _, a := range l {
		f = api.Term{Op: api.App, Kids: []api.Term{f, Copy(a)}}
	}
	return f
}
