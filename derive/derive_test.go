package derive

import (
	"testing"

	"triforium/api"
	"triforium/checker"
	"triforium/kernel"
	"triforium/term"
	"triforium/theory"
	"triforium/types"
)

var prop = types.Prop()

func free(name string, t api.Type) api.Term { return api.Term{Op: api.Free, Name: name, Type: t} }

func taken(t *testing.T, th kernel.Theorem, want api.Term) {
	t.Helper()
	s, e := checker.Check(th.Theory(), th.Proof())
	if e != api.OK || !term.Equal(s.Prop, want) || !term.Equal(th.Prop(), want) {
		t.Error(e, th.Prop())
	}
}

func TestEquations(t *testing.T) {
	base := Must(kernel.On(theory.Pure()))
	a, f := free("a", prop), free("f", types.Fun(prop, prop))
	twice := Lambda(a, App(f, App(f, a)))
	redex := App(Lambda(a, App(twice, a)), App(f, a))
	p := New(base, []api.Term{redex})
	e := p.Normal(redex)
	n, _ := term.Norm(redex, 10)
	taken(t, p.Stated(e), Must(term.Eq(redex, n)))
	if !p.Normal(n).IsSame() {
		t.Error("a normal form")
	}
	eta := Lambda(a, App(f, a))
	taken(t, p.Stated(p.Alike(App(Lambda(f, f), f), eta)), Must(term.Eq(App(Lambda(f, f), f), eta)))
	th := p.Assume(redex)
	taken(t, Changed(e, th), n)
	taken(t, p.Normalized(th), n)
}

func TestProved(t *testing.T) {
	if n, e := Proved(func() int { panic(api.ErrSort) }); n != 0 || e != api.ErrSort {
		t.Error(n, e)
	}
	if n, e := Proved(func() int { panic("other") }); n != 0 || e != api.ErrFail {
		t.Error(n, e)
	}
	if n, e := Proved(func() int { return Must(7, api.OK) }); n != 7 || e != api.OK {
		t.Error(n, e)
	}
	if _, ok := Permitted(func() Equation { panic(api.ErrType) }); ok {
		t.Error("not permitted")
	}
	if _, e := Proved(func() bool { _, ok := Permitted(func() Equation { panic(api.ErrLarge) }); return ok }); e != api.ErrLarge {
		t.Error(e)
	}
}

func TestFresh(t *testing.T) {
	p := New(Must(kernel.On(theory.Pure())), []api.Term{free("x", prop)})
	a := p.Fresh("x", prop)
	b := p.Fresh("y", prop)
	if a.Name == "x" || b.Name != "y" || p.Fresh("y", prop).Name == "y" {
		t.Error(a.Name, b.Name)
	}
	p.Release(b)
	if p.Fresh("y", prop).Name != "y" {
		t.Error("a name that was given back")
	}
}

// A rule is used of theorems that tell its variables, and of others that are given.
func TestUse(t *testing.T) {
	base := Must(kernel.On(theory.Pure()))
	v := func(name string, k api.Type) api.Term { return api.Term{Op: api.Var, Name: name, Type: k} }
	a, f := free("a", prop), free("f", types.Fun(prop, prop))
	rule := Must(base.Assume(term.Imp(v("A", prop), App(v("F", types.Fun(prop, prop)), v("A", prop)))))
	p := New(base, nil)
	known := api.Inst{Terms: []api.TermBind{{Name: "F", To: Lambda(a, App(f, a))}}}
	th := p.Use(rule, known, nil, p.Assume(App(f, a)))
	if !term.Equal(th.Prop(), App(f, App(f, a))) {
		t.Error(th.Prop())
	}
	r := NewRule(rule)
	if len(r.Vars) != 2 || len(r.Types) != 0 || len(r.All) != 2 {
		t.Error(r)
	}
	up := r.Raised(3, api.Inst{})
	if vars := term.Vars(up.Prop()); len(vars) != 2 || vars[0].Num != 3 {
		t.Error(vars)
	}
	if r.Raised(0, api.Inst{}).Proof().Op != api.Assume {
		t.Error("nothing is instantiated")
	}
}
