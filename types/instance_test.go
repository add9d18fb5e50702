package types

import (
	"math/rand"
	"testing"

	"triforium/api"
)

func TestP21Instance(t *testing.T) {
	l := []api.TypeBind{{Name: "a", To: of("list(?b.0)")}, {Name: "a", To: of("nat")}, {Name: "b", Index: 1, To: of("'c")}}
	x := NewInstance(l)
	for i, c := range []struct {
		t, gives, not string
	}{
		{"?a.0", "list(?b.0)", "nat"}, {"?a.1", "?a.1", "list(?b.0)"}, {"fun(?a.0, ?b.1)", "fun(list(?b.0), 'c)", "fun(list(?b.0), ?b.1)"}, {"'a", "'a", "list(?b.0)"}, {"list(?a.0)", "list(list(?b.0))", "list(list(?b.1))"}, {"nat", "nat", "'nat"}, {"fun(nat, nat)", "fun(nat, nat)", "fun(nat)"},
	} {
		n, d := x.Size(of(c.t))
		n2, d2 := Size(of(c.gives))
		if text(x.Apply(of(c.t))) != c.gives || n != n2 || d != d2 || !x.Gives(of(c.t), of(c.gives)) || x.Gives(of(c.t), of(c.not)) {
			t.Error(i, text(x.Apply(of(c.t))), n, d)
		}
	}
	// of types that would be too large
	k := of("?a.0")
	for range 30 {
		k = api.Type{Op: api.TCon, Name: "fun", Args: []api.Type{k, of("nat")}}
	}
	wide := full(19999, of("nat"))
	n2, d2 := Size(wide)
	if n, d := NewInstance([]api.TypeBind{{Name: "a", To: wide}}).Size(k); n != n2+60 || d != d2+30 {
		t.Error(n, d)
	}
}

// An Instance is Apply.
func TestP21RandomInstance(t *testing.T) {
	for seed := range 3000 {
		g := gen{rand.New(rand.NewSource(int64(seed))), small()}
		vars := g.variables()
		a, b := g.typ(vars, 3), g.typ(vars, 3)
		var l []api.TypeBind
		for _, v := range vars {
			if g.Intn(2) == 0 {
				l = append(l, api.TypeBind{Name: v.Name, Index: v.Index, To: g.typ(vars, 2)})
			}
		}
		x := NewInstance(l)
		n, d := x.Size(a)
		n2, d2 := Size(Apply(l, a))
		if !Equal(x.Apply(a), Apply(l, a)) || n != n2 || d != d2 || !x.Gives(a, Apply(l, a)) || x.Gives(a, b) != Equal(Apply(l, a), b) {
			t.Fatal(seed, text(a), text(b))
		}
	}
}
