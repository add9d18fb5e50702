package types

import (
	"math/rand"
	"testing"

	"triforium/api"
	"triforium/sort"
)

// A Unifier binds the variables alone that it makes.
func TestP21Unifier(t *testing.T) {
	g, e := sort.Sign(small())
	if e != api.OK {
		t.Fatal(e)
	}
	for i, c := range []struct {
		a, b string
		e    api.Errno
	}{
		{"?a.0", "?a.0", api.OK}, {"?a.0", "?a.1", api.ErrFail}, {"?a.0", "nat", api.ErrFail}, {"list(?a.7)", "list('a)", api.ErrFail}, {"fun(nat, ?b.1000000)", "fun(nat, ?b.1000000)", api.OK},
	} {
		if e := NewUnifier(g).Unify(of(c.a), of(c.b)); e != c.e {
			t.Error(i, e)
		}
	}
	u := NewUnifier(g)
	a, b, c := u.New(), u.New(), u.Instance(of("fun(?a.0, fun(?b.0{c}, ?a.0))"))
	if !u.IsNew(a) || !u.IsNew(b) || !u.IsNew(c.Args[0]) || u.IsNew(of("?a.1000000")) || u.IsNew(of("'a")) || Equal(a, b) || Equal(a, c.Args[0]) || !Equal(u.Instance(of("nat")), of("nat")) {
		t.Error("new variables")
	}
	if e := u.Unify(a, Fun(of("?a.0"), b)); e != api.OK {
		t.Error(e)
	}
	if e := u.Unify(b, Fun(of("nat"), a)); e != ErrOccurs {
		t.Error(e)
	}
	u = NewUnifier(g)
	a, b = u.New(), u.New()
	if e := u.Unify(Fun(a, b), Fun(of("list(?a.0)"), a)); e != api.OK || text(u.Apply(Fun(b, a))) != "fun(list(?a.0), list(?a.0))" {
		t.Error(e, text(u.Apply(Fun(b, a))))
	}
	if e := u.Unify(a, of("list('a)")); e != api.ErrFail {
		t.Error(e)
	}
	// a sort that a variable which stays has not
	u = NewUnifier(g)
	c = u.Instance(of("?a.0{c}"))
	if e := u.Unify(c, of("list(?b.0)")); e != api.ErrSort {
		t.Error(e)
	}
	u = NewUnifier(g)
	c = u.Instance(of("?a.0{c}"))
	if e := u.Unify(c, of("list(?b.0{e})")); e != api.OK || text(u.Apply(c)) != "list(?b.0{e})" {
		t.Error(e)
	}
}

// One pair behind the other is both at once.
func TestP24Unifier(t *testing.T) {
	sign, _ := sort.Sign(small())
	some := 0
	for seed := range 10000 {
		g := gen{rand.New(rand.NewSource(int64(seed))), small()}
		vars := g.variables()
		a, b, c, d := g.typ(vars, 2), g.typ(vars, 1), g.typ(vars, 1), g.typ(vars, 2)
		next := max(MaxIndex(Fun(a, b)), MaxIndex(Fun(c, d))) + 1
		want, behind, e := UnifyIn(sign, Fun(a, c), Fun(b, d), next)
		u := newUnifier(sign, 0, next)
		e2 := u.Unify(a, b)
		if e2 == api.OK {
			e2 = u.Unify(c, d)
		}
		if e != e2 {
			t.Fatal(seed, e, e2)
		}
		if e != api.OK {
			continue
		}
		got, _ := u.result()
		if bindText(got) != bindText(want) || u.next != behind || !Equal(u.Apply(a), u.Apply(b)) || !Equal(u.Apply(c), Apply(want, d)) {
			t.Fatal(seed, bindText(got), bindText(want))
		}
		some += min(1, len(got))
	}
	if some < 150 {
		t.Error(some)
	}
}
