package types

import (
	"fmt"
	"math/rand"
	"slices"
	"testing"

	"triforium/api"
	"triforium/sort"
)

func TestP21Unify(t *testing.T) {
	for i, x := range []struct {
		a, b, want string
		e          api.Errno
	}{
		{"fun(?a.0, ?a.0)", "fun(?b.0, list(nat))", "a.0=list(nat) b.0=list(nat)", api.OK},
		{"?a.0{c}", "?b.0{d}", "a.0=?b.1{c,d} b.0=?b.1{c,d}", api.OK},
		{"?a.0", "?b.0", "b.0=?a.0", api.OK}, {"?b.0", "?a.0", "a.0=?b.0", api.OK}, {"?a.0{c}", "?b.0", "b.0=?a.0{c}", api.OK}, {"?a.0{e}", "?b.7{c}", "b.7=?a.0{e}", api.OK},
		{"?a.0", "?b.3{c}", "a.0=?b.3{c}", api.OK}, {"?a.5{u}", "?b.3{d}", "a.5=?b.6{d,u} b.3=?b.6{d,u}", api.OK},
		{"?a.0", "?a.0", "", api.OK}, {"nat", "nat", "", api.OK}, {"fun('a{c}, ?b.0)", "fun('a{c}, ?b.0)", "", api.OK},
		{"nat", "?b.0", "b.0=nat", api.OK}, {"list(nat)", "?b.0{c}", "b.0=list(nat)", api.OK}, {"'a{e}", "?b.0{u}", "b.0='a{e}", api.OK},
		{"?a.4{d}", "list(?b.0)", "a.4=list(?b.5{c,d}) b.0=?b.5{c,d}", api.OK}, {"?a.0{d}", "list(?b.0{e})", "a.0=list(?b.0{e})", api.OK},
		{"list(list(?b.0))", "?a.0{c}", "a.0=list(list(?b.1{c})) b.0=?b.1{c}", api.OK},
		{"fun(?x.0{c}, ?y.0{d})", "fun(list(?b.0), list(?b.0))", "b.0=?b.2{c,d} b.1=?b.2{c,d} x.0=list(?b.2{c,d}) y.0=list(?b.2{c,d})", api.OK},
		{"?a.0", "list(?a.0)", "", ErrOccurs}, {"fun(?a.0, ?b.0)", "fun(list(?b.0), list(?a.0))", "", ErrOccurs}, {"fun(?a.0, ?a.0)", "fun(?b.0, list(?b.0))", "", ErrOccurs}, {"list(?a.0{d})", "?a.0{d}", "", ErrOccurs},
		{"?a.0{d}", "list(?a.0{d})", "", ErrOccurs}, {"?a.0{d}", "fun(?a.0{d}, nat)", "", ErrOccurs}, // ahead of the sort
		{"nat", "prop", "", api.ErrFail}, {"'x", "'y", "", api.ErrFail}, {"'x", "nat", "", api.ErrFail}, {"list(nat)", "fun(nat, nat)", "", api.ErrFail}, {"fun(nat, ?a.0)", "fun(prop, list(?a.0))", "", api.ErrFail}, {"fun(?a.0, nat)", "fun(list(?a.0), prop)", "", ErrOccurs},
		{"?a.0{d}", "nat", "", api.ErrSort}, {"'x", "?a.0{c}", "", api.ErrSort}, {"'x{c}", "?a.0{c,d}", "", api.ErrSort}, {"?a.0{u}", "fun(nat, nat)", "", api.ErrSort}, {"?a.0{d}", "list(nat)", "", api.ErrSort},
		{"fun(?a.0{c}, nat)", "fun(prop, prop)", "", api.ErrSort}, {"fun(nat, ?a.0{c})", "fun(prop, prop)", "", api.ErrFail},
		{"fun(?a.0, ?a.0)", "fun(?a.0{c}, nat)", "", api.ErrSort}, {"fun('a, nat)", "fun('a{c}, prop)", "", api.ErrSort}, {"?a.0", "'a{c}", "a.0='a{c}", api.OK},
		{"set", "list", "", api.ErrMissing}, {"list", "set", "", api.ErrCount}, {"fun('a, 'a{c})", "set", "", api.ErrSort}, {"nat", "1", "", api.ErrForm},
		{"?a.1000000{c}", "?b.0{d}", "a.1000000=?b.1000001{c,d} b.0=?b.1000001{c,d}", api.OK},
	} {
		a, b := of(x.a), of(x.b)
		m, e := Unify(small(), a, b)
		if e != x.e || bindText(m) != x.want {
			t.Error(i, x.a, x.b, bindText(m), e)
		}
	}
	thy := small()
	thy.Types = nil
	if _, e := Unify(thy, api.Type{}, api.Type{}); e != api.ErrMissing {
		t.Error(e)
	}
}

func TestP21UnifyLimits(t *testing.T) {
	thy, nat, a, b := small(), con("nat"), of("?a.0"), of("?b.0")
	size := func(n int, leaf api.Type) api.Type { // tree takes 10 arguments, list 1
		rest := (n - 1) % 10
		return deep(rest+1, full(n-rest, leaf))
	}
	for i, x := range []struct {
		a, b api.Type
		e    api.Errno
	}{
		{a, size(2000, nat), api.OK}, {a, size(2001, nat), api.ErrLarge}, {size(2001, nat), a, api.ErrLarge}, {size(2001, nat), size(2001, nat), api.OK},
		{Fun(b, Fun(a, nat)), Fun(con("list", a), Fun(size(1999, nat), nat)), api.OK},
		{Fun(b, Fun(a, nat)), Fun(con("list", a), Fun(size(2000, nat), nat)), api.ErrLarge},
		{Fun(b, Fun(a, nat)), Fun(con("list", a), Fun(size(2000, nat), Prop())), api.ErrLarge},
		{Fun(b, Fun(nat, a)), Fun(con("list", a), Fun(Prop(), size(2000, nat))), api.ErrFail},
		{Fun(a, nat), Fun(size(2001, a), nat), ErrOccurs},
		{a, deep(500, nat), api.OK},
		{Fun(a, b), Fun(deep(250, b), deep(251, nat)), api.OK}, {Fun(a, b), Fun(deep(250, b), deep(252, nat)), api.ErrDepth},
	} {
		if m, e := Unify(thy, x.a, x.b); e != x.e || e != api.OK && m != nil {
			t.Error(i, e, x.e)
		}
	}
	// each variable is two of the next one: the last one would be very large
	left, right := nat, nat
	for i := range 40 {
		v := func(k int) api.Type { return api.Type{Op: api.TVar, Name: "v", Index: k} }
		left = Fun(v(i), left)
		right = Fun(Fun(v(i+1), v(i+1)), right)
	}
	if _, e := Unify(thy, left, right); e != api.ErrLarge {
		t.Error(e)
	}
}

// Sorts of more classes than permitted.
func TestP21UnifyManyClasses(t *testing.T) {
	thy := small()
	var l []string
	for i := range 21 {
		l = append(l, fmt.Sprintf("k%02d", i))
		thy.Classes = append(thy.Classes, api.Class{Name: l[i]})
	}
	thy.Arities = append(thy.Arities, api.Arity{Type: "list", Class: "k00", Sorts: [][]string{l[:11]}}, api.Arity{Type: "list", Class: "k01", Sorts: [][]string{l[11:]}})
	a := api.Type{Op: api.TVar, Name: "a", Sort: l[:10]}
	b := api.Type{Op: api.TVar, Name: "b", Sort: l[10:20]}
	if m, e := Unify(thy, a, b); e != api.OK || len(m[0].To.Sort) != 20 {
		t.Error(e)
	}
	b.Sort = l[10:21]
	if _, e := Unify(thy, a, b); e != api.ErrSort {
		t.Error(e)
	}
	if _, e := Unify(thy, of("?a.0{k00,k01}"), of("list(?b.0)")); e != api.ErrSort {
		t.Error(e)
	}
	// HasSort asks each argument, however many classes it must have
	thy.Arities = append(thy.Arities, api.Arity{Type: "nat", Class: "d"})
	for _, c := range l {
		thy.Arities = append(thy.Arities, api.Arity{Type: "nat", Class: c})
	}
	if !HasSort(thy, of("list(nat)"), []string{"k00", "k01"}) {
		t.Error("HasSort")
	}
}

// gen makes random types of a theory.
type gen struct {
	*rand.Rand
	thy api.Theory
}

func (g gen) sortOf(all ...string) []string {
	var s []string
	for _, c := range all {
		if g.Intn(3) == 0 {
			s = append(s, c)
		}
	}
	n, _ := sort.Normal(g.thy, s)
	return n
}

// variables returns variables with sorts.
func (g gen) variables() []api.Type {
	var l []api.Type
	for _, s := range []string{"?a.0", "?b.0", "?b.1", "?k.4", "'x", "'y"} {
		v := of(s)
		v.Sort = g.sortOf("c", "d", "e", "u")
		l = append(l, v)
	}
	return l
}

func (g gen) typ(vars []api.Type, depth int) api.Type {
	if depth == 0 || g.Intn(3) == 0 {
		if g.Intn(4) == 0 {
			return con([]string{"nat", "prop"}[g.Intn(2)])
		}
		return vars[g.Intn(len(vars))]
	}
	if g.Intn(2) == 0 {
		return con("list", g.typ(vars, depth-1))
	}
	return con("fun", g.typ(vars, depth-1), g.typ(vars, depth-1))
}

// generalized returns a type with further variables in the place of some parts, and binds that undo this.
func (g gen) generalized(t api.Type, next *int, l *[]api.TypeBind) api.Type {
	if g.Intn(6) == 0 {
		v := api.Type{Op: api.TVar, Name: "n", Index: 100 + *next}
		for _, c := range []string{"c", "d", "e", "u"} {
			s, _ := sort.Normal(g.thy, append(slices.Clone(v.Sort), c))
			if g.Intn(2) == 0 && HasSort(g.thy, t, s) {
				v.Sort = s
			}
		}
		*next++
		*l = append(*l, api.TypeBind{Name: v.Name, Index: v.Index, To: t})
		return v
	}
	t = Copy(t)
	for i := range t.Args {
		t.Args[i] = g.generalized(t.Args[i], next, l)
	}
	return t
}

func TestP23Matching(t *testing.T) {
	matched, failed := 0, 0
	for seed := range 3000 {
		g := gen{rand.New(rand.NewSource(int64(seed))), small()}
		vars := g.variables()
		p, x := g.typ(vars, 3), g.typ(vars, 3)
		if g.Intn(2) == 0 { // an instance of the pattern by types of the right sorts
			x = Apply(g.rightBinds(vars), p)
		}
		m, e := Match(g.thy, p, x, nil)
		if e == api.OK {
			matched++
			if !Equal(Apply(m, p), x) || !rightSorts(g.thy, p, m) {
				t.Fatal(seed, text(p), text(x), bindText(m))
			}
		} else if failed++; e != api.ErrFail || isInstance(g.thy, p, x, map[string]api.Type{}) {
			t.Fatal(seed, text(p), text(x), e)
		}
	}
	if matched < 1000 || failed < 300 {
		t.Error(matched, failed)
	}
}

// rightBinds returns binds of some variables to types that have their sorts.
func (g gen) rightBinds(vars []api.Type) []api.TypeBind {
	var l []api.TypeBind
	for _, v := range vars {
		x := g.typ(vars, 2)
		if v.Op == api.TVar && HasSort(g.thy, x, v.Sort) {
			l = append(l, api.TypeBind{Name: v.Name, Index: v.Index, To: x})
		}
	}
	return l
}

// rightSorts reports whether each variable of a type has a bind to a type with its sort.
func rightSorts(thy api.Theory, t api.Type, l []api.TypeBind) bool {
	for _, v := range Variables(t) {
		if v.Op == api.TVar && !HasSort(thy, Apply(l, v), v.Sort) {
			return false
		}
	}
	return true
}

// isInstance is what the document says of matching, word by word.
func isInstance(thy api.Theory, p, t api.Type, met map[string]api.Type) bool {
	if p.Op == api.TVar {
		k := fmt.Sprint(p.Name, p.Index)
		if old, ok := met[k]; ok {
			return Equal(old, t)
		}
		met[k] = t
		return HasSort(thy, t, p.Sort)
	}
	if p.Op != t.Op || p.Name != t.Name || len(p.Args) != len(t.Args) || !slices.Equal(p.Sort, t.Sort) {
		return false
	}
	for i := range p.Args {
		if !isInstance(thy, p.Args[i], t.Args[i], met) {
			return false
		}
	}
	return true
}

func TestP24Unification(t *testing.T) {
	solved := 0
	for seed := range 6000 {
		g := gen{rand.New(rand.NewSource(int64(seed))), small()}
		vars := g.variables()
		a, b := g.typ(vars, 3), g.typ(vars, 3)
		var special []api.TypeBind // makes both equal, if there is one
		known := seed%2 == 0
		if known {
			common, next := g.typ(vars, 3), 0
			a, b = g.generalized(common, &next, &special), g.generalized(common, &next, &special)
		}
		m, e := Unify(g.thy, a, b)
		if e != api.OK {
			if known {
				t.Fatal("a unifier is left out", seed, text(a), text(b), e)
			}
			continue
		}
		solved++
		if !Equal(Apply(m, a), Apply(m, b)) || !rightSorts(g.thy, Fun(a, b), m) || !slices.IsSortedFunc(m, byKey) {
			t.Fatal("no unifier", seed, text(a), text(b), bindText(m))
		}
		for _, x := range m {
			if !Equal(Apply(m, x.To), x.To) || Equal(x.To, api.Type{Op: api.TVar, Name: x.Name, Index: x.Index, Sort: x.To.Sort}) {
				t.Fatal("binds are applied to all others", seed, bindText(m))
			}
		}
		if known && !isLeast(g.thy, m, special, Variables(Fun(a, b))) {
			t.Fatal("not most general", seed, text(a), text(b), bindText(m), bindText(special))
		}
	}
	if solved < 3300 {
		t.Error(solved)
	}
}

func byKey(a, b api.TypeBind) int {
	return Compare(api.Type{Name: a.Name, Index: a.Index}, api.Type{Name: b.Name, Index: b.Index})
}

// isLeast reports whether special is an instance of general for all variables together.
func isLeast(thy api.Theory, general, special []api.TypeBind, vars []api.Type) bool {
	met := map[string]api.Type{}
	for _, v := range vars {
		if !isInstance(thy, Apply(general, v), Apply(special, v), met) {
			return false
		}
	}
	return true
}

// Whether there is a unifier does not depend on the order of both types.
func TestP24BothOrders(t *testing.T) {
	for seed := range 3000 {
		g := gen{rand.New(rand.NewSource(int64(seed))), small()}
		vars := g.variables()
		a, b := g.typ(vars, 3), g.typ(vars, 3)
		_, e := Unify(g.thy, a, b)
		_, f := Unify(g.thy, b, a)
		if (e == api.OK) != (f == api.OK) {
			t.Fatal(seed, text(a), text(b), e, f)
		}
	}
}

func TestP22RandomOrder(t *testing.T) {
	for seed := range 2000 {
		g := gen{rand.New(rand.NewSource(int64(seed))), small()}
		vars := g.variables()
		a, b, c := g.typ(vars, 2), g.typ(vars, 2), g.typ(vars, 2)
		if Compare(a, b) != -Compare(b, a) || (Compare(a, b) == 0) != Equal(a, b) || Equal(a, b) != (text(a) == text(b)) {
			t.Fatal(seed, text(a), text(b))
		}
		if Compare(a, b) <= 0 && Compare(b, c) <= 0 && Compare(a, c) > 0 {
			t.Fatal("transitive", seed, text(a), text(b), text(c))
		}
	}
}

func TestP25RandomTexts(t *testing.T) {
	for seed := range 1000 {
		g := gen{rand.New(rand.NewSource(int64(seed))), small()}
		x := g.typ(g.variables(), 4)
		s, e := Text(x)
		y, f := Read(s)
		if e != api.OK || f != api.OK || !Equal(x, y) {
			t.Fatal(seed, s, e, f)
		}
		// a text with one byte less, or another one, is read only if it is a text
		i := g.Intn(len(s))
		for _, changed := range []string{s[:i] + s[i+1:], s[:i] + string(" a1.',(){}?\xff"[g.Intn(12)]) + s[i+1:]} {
			z, e := Read(changed)
			if e != api.OK {
				continue
			}
			if back, _ := Text(z); back != changed {
				t.Fatal(changed, back)
			}
		}
	}
}

func TestP26Instances(t *testing.T) {
	tried := 0
	for seed := range 3000 {
		g := gen{rand.New(rand.NewSource(int64(seed))), small()}
		vars := g.variables()
		x, s := g.typ(vars, 3), g.sortOf("c", "d", "e", "u")
		if len(s) == 0 || !HasSort(g.thy, x, s) {
			continue
		}
		tried++
		if y := Apply(g.rightBinds(vars), x); !HasSort(g.thy, y, s) {
			t.Fatal(seed, text(x), text(y), s)
		}
	}
	if tried < 100 {
		t.Error(tried)
	}
}

// UnifyIn is Unify with new variables from an index on, which it returns for the next one.
func TestP21UnifyIn(t *testing.T) {
	g, e := sort.Sign(small())
	if e != api.OK {
		t.Fatal(e)
	}
	for i, x := range []struct {
		a, b string
		next int
		want string
		left int
		e    api.Errno
	}{
		{"?a.0{c}", "?b.0{d}", 7, "a.0=?b.7{c,d} b.0=?b.7{c,d}", 8, api.OK}, {"?a.0", "nat", 7, "a.0=nat", 7, api.OK}, {"fun(?x.0{c}, ?y.0{d})", "fun(list(?b.0), list(?b.0))", 5, "b.0=?b.6{c,d} b.5=?b.6{c,d} x.0=list(?b.6{c,d}) y.0=list(?b.6{c,d})", 7, api.OK},
		{"nat", "prop", 7, "", 0, api.ErrFail}, {"set", "nat", 7, "", 0, api.ErrMissing}, {"nat", "set", 7, "", 0, api.ErrMissing}, {"?a.0", "?a.0{c}", 7, "", 0, api.ErrSort},
	} {
		l, left, e := UnifyIn(g, of(x.a), of(x.b), x.next)
		if bindText(l) != x.want || left != x.left || e != x.e {
			t.Error(i, bindText(l), left, e)
		}
	}
}
