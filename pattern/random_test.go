package pattern

import (
	"fmt"
	"math/rand"
	"slices"
	"testing"

	"triforium/api"
	"triforium/term"
	"triforium/types"
)

// gen makes random patterns.
type gen struct {
	*rand.Rand
	vars  []api.Term // those that were used
	tvars bool       // whether there are type variables
}

// typ returns one of a few types.
func (g *gen) typ(depth int) api.Type {
	switch n := g.Intn(8); {
	case depth > 0 && n < 3:
		return types.Fun(g.typ(depth-1), g.typ(depth-1))
	case depth > 0 && n == 3:
		return api.Type{Op: api.TCon, Name: "list", Args: []api.Type{g.typ(depth - 1)}}
	case g.tvars && n == 4:
		return typ([]string{"?a", "?b{c}", "?e{d}", "'k{c}"}[g.Intn(4)])
	}
	return typ("N")
}

// of returns a term of a type, within abstractions of some types.
func (g *gen) of(t api.Type, around []api.Type, depth int) api.Term {
	if types.IsFun(t) && g.Intn(4) > 0 {
		return api.Term{Op: api.Abs, Name: "v", Type: t.Args[0], Kids: []api.Term{g.of(t.Args[1], append(around, t.Args[0]), depth)}}
	}
	if g.Intn(3) == 0 || depth == 0 {
		return g.flexible(t, around)
	}
	var heads []api.Term
	for i, k := range around {
		if ends(k, t) {
			heads = append(heads, api.Term{Op: api.Bound, Num: len(around) - 1 - i, Type: k})
		}
	}
	for _, c := range small().Consts {
		for _, k := range g.instances(c.Type, t) {
			heads = append(heads, api.Term{Op: api.Const, Name: c.Name, Type: k})
		}
	}
	name := fmt.Sprint("v", len(typeText(t)))
	if typeText(t) == "nat" {
		heads = append(heads, api.Term{Op: api.Free, Name: name, Type: t})
	}
	if len(heads) == 0 {
		return g.flexible(t, around)
	}
	h := heads[g.Intn(len(heads))]
	k := h.Type
	if h.Op == api.Bound {
		h.Type = api.Type{}
	}
	for !types.Equal(k, t) {
		h = api.Term{Op: api.App, Kids: []api.Term{h, g.of(k.Args[0], around, depth-1)}}
		k = k.Args[1]
	}
	return h
}

// instances returns instances of the type of a constant that end in a type.
func (g *gen) instances(c, t api.Type) []api.Type {
	var l []api.Type
	for range 2 {
		var b []api.TypeBind
		for _, v := range types.Variables(c) {
			to := t
			if g.Intn(3) == 0 {
				to = g.typ(1)
			}
			if !types.HasSort(small(), to, v.Sort) {
				return nil
			}
			b = append(b, api.TypeBind{Name: v.Name, To: to})
		}
		if k := types.Apply(b, c); ends(k, t) {
			l = append(l, k)
		}
	}
	return l
}

// ends reports whether a type is another one, or one of functions to it.
func ends(k, t api.Type) bool {
	for ; !types.Equal(k, t); k = k.Args[1] {
		if !types.IsFun(k) {
			return false
		}
	}
	return true
}

// flexible returns a variable of a few, with arguments.
func (g *gen) flexible(t api.Type, around []api.Type) api.Term {
	if len(g.vars) > 0 && g.Intn(2) == 0 {
		for range 3 {
			if v, ok := g.again(g.vars[g.Intn(len(g.vars))], t, around); ok {
				return v
			}
		}
	}
	v := api.Term{Op: api.Var, Name: []string{"F", "G", "H"}[g.Intn(3)], Num: len(g.vars)}
	var args []api.Term
	k := t
	for _, i := range g.Perm(len(around))[:g.Intn(len(around)+1)] {
		args = append(args, bound(len(around)-1-i))
		k = types.Fun(around[i], k)
	}
	slices.Reverse(args)
	v.Type = k
	g.vars = append(g.vars, v)
	return term.Apps(v, args)
}

// again applies a variable to arguments, so that the type fits.
func (g *gen) again(v api.Term, t api.Type, around []api.Type) (api.Term, bool) {
	if !ends(v.Type, t) {
		return api.Term{}, false
	}
	out, used := v, map[int]bool{}
	for k := v.Type; !types.Equal(k, t); k = k.Args[1] {
		found := false
		for _, i := range g.Perm(len(around)) {
			if !used[i] && types.Equal(around[i], k.Args[0]) {
				used[i], found = true, true
				out = term.Apps(out, []api.Term{bound(len(around) - 1 - i)})
				break
			}
		}
		if !found {
			return api.Term{}, false
		}
	}
	return out, true
}

// loosened replaces parts of a term by variables with bound variables.
func (g *gen) loosened(t api.Term, around []api.Type) api.Term {
	if g.Intn(5) == 0 {
		if k, ok := typeIn(t, around); ok {
			return g.flexible(k, around)
		}
	}
	if f, _ := spine(t); f.Op == api.Var || len(t.Kids) == 0 {
		return t
	}
	if t.Op == api.Abs {
		t.Kids = []api.Term{g.loosened(t.Kids[0], append(around, t.Type))}
		return t
	}
	f, args := spine(t)
	for i := range args {
		args[i] = g.loosened(args[i], around)
	}
	return apps(f, args)
}

// typeIn returns the type of a term within abstractions.
func typeIn(t api.Term, around []api.Type) (api.Type, bool) {
	k, e := term.TypeOf(abstraction(around, t))
	if e != api.OK {
		return api.Type{}, false
	}
	for range around {
		k = k.Args[1]
	}
	return k, true
}

// special returns an instantiation of variables by terms, perhaps patterns.
func (g *gen) special(vars []api.Term) api.Inst {
	var i api.Inst
	for _, v := range vars {
		if g.Intn(3) > 0 {
			i.Terms = append(i.Terms, api.TermBind{Name: v.Name, Index: v.Num, To: g.of(v.Type, nil, 2)})
		}
	}
	return i
}

// pairs returns random pairs of patterns, many of which can be made equal.
func (g *gen) pairs() []Pair {
	var l []Pair
	for range 1 + g.Intn(2) {
		t := g.typ(2)
		a := g.of(t, nil, 3)
		b := g.of(t, nil, 3)
		if g.Intn(3) > 0 { // an instance of it
			b = a
			i := g.special(term.Vars(a))
			if now, e := term.Norm(term.Apply(i, a), 100); e == api.OK && Is(now) {
				b = now
			}
			b = g.loosened(b, nil)
		}
		if g.Intn(3) == 0 {
			a = term.Eta(a)
		}
		if g.Intn(3) == 0 {
			b = term.Eta(b)
		}
		if !Is(a) || !Is(b) {
			continue
		}
		l = append(l, Pair{a, b})
	}
	return l
}

func newGen(seed int) *gen {
	return &gen{Rand: rand.New(rand.NewSource(int64(seed))), tvars: seed%3 == 0}
}

func pairText(l []Pair) string {
	s := ""
	for _, p := range l {
		s += brief(p.A) + "  =  " + brief(p.B) + "\n"
	}
	return s
}

// Unify is what the document says word by word, and what it returns solves the pairs.
func TestP92Random(t *testing.T) {
	thy := small()
	counts := map[api.Errno]int{}
	for seed := range 2500 {
		g := newGen(seed)
		l := g.pairs()
		i, e := Unify(thy, l)
		counts[e]++
		want, f := naiveUnify(thy, l)
		if e != f || instText(i) != instText(want) {
			t.Fatal(seed, e, f, "\n", pairText(l), instText(i), "\n", instText(want))
		}
		if e == api.OK && !Solves(thy, i, l) {
			t.Fatal(seed, pairText(l), instText(i))
		}
	}
	if counts[api.OK] < 1000 || counts[api.ErrFail] < 500 {
		t.Error(counts)
	}
}

// What Match returns makes the pattern equal to the term; of a term without variables it is what Unify returns.
func TestP92RandomMatch(t *testing.T) {
	thy := small()
	counts := map[api.Errno]int{}
	for seed := range 4000 {
		g := newGen(seed)
		k := g.typ(2)
		p := g.of(k, nil, 3)
		u := g.of(k, nil, 3)
		if g.Intn(4) > 0 {
			u = term.Apply(g.special(term.Vars(p)), p)
		}
		if g.Intn(2) == 0 {
			u = closedTerm(u)
		}
		i, e := Match(thy, p, u)
		counts[e]++
		if _, f := term.Check(thy, u); f != api.OK || e == ErrPattern {
			if e != f && e != ErrPattern {
				t.Fatal(seed, e, f)
			}
			continue
		}
		n, f := term.Norm(u, 1000)
		if f != api.OK {
			t.Fatal(f)
		}
		if e == api.OK {
			now, f := term.Norm(term.Apply(i, p), 1000)
			if f != api.OK || !term.Equal(term.Eta(now), term.Eta(n)) || len(i.Terms) != len(term.Vars(p)) {
				t.Fatal(seed, brief(p), brief(u), instText(i))
			}
		}
		if len(term.Vars(u)) == 0 && len(term.TypeVariables(u)) == 0 {
			want, f := Unify(thy, []Pair{{p, n}})
			if e != f || instText(i) != instText(want) {
				t.Fatal(seed, e, f, brief(p), brief(u), instText(i), instText(want))
			}
		}
	}
	if counts[api.OK] < 1200 || counts[api.ErrFail] < 400 {
		t.Error(counts)
	}
}

// closedTerm returns a term with Frees for its Vars.
func closedTerm(t api.Term) api.Term {
	if t.Op == api.Var {
		t.Name = fmt.Sprint(t.Name, "_", t.Num)
		t.Op, t.Num = api.Free, 0
	}
	t.Kids = slices.Clone(t.Kids)
	for i := range t.Kids {
		t.Kids[i] = closedTerm(t.Kids[i])
	}
	return t
}

// If an instantiation solves the pairs, Unify does not fail, and is more general.
func TestP93Random(t *testing.T) {
	thy := small()
	solved := 0
	for seed := range 3000 {
		g := newGen(seed)
		k := g.typ(2)
		a := g.of(k, nil, 3)
		b := g.loosened(a, nil)
		vars := slices.Concat(term.Vars(a), term.Vars(b))
		special := g.special(term.Vars(a))
		now := term.Apply(special, a)
		if !Is(a) || !Is(b) {
			continue
		}
		// what both sides are matched to
		m, e := Match(thy, a, now)
		n, f := Match(thy, b, now)
		if e != api.OK || f != api.OK {
			continue
		}
		both, ok := joined(m, n)
		l := []Pair{{a, b}}
		if !ok || !Solves(thy, both, l) || len(vars) > 50 {
			continue
		}
		solved++
		i, e := Unify(thy, l)
		if e != api.OK {
			t.Fatal(seed, e, pairText(l), instText(both))
		}
		if least, e := Least(thy, i, both, vars); !least || e != api.OK {
			t.Fatal(seed, e, pairText(l), instText(both), instText(i))
		}
	}
	if solved < 700 {
		t.Error(solved)
	}
}

// joined returns an instantiation with the binds of both; false, if they differ.
func joined(a, b api.Inst) (api.Inst, bool) {
	for _, x := range b.Terms {
		k := slices.IndexFunc(a.Terms, func(y api.TermBind) bool { return x.Name == y.Name && x.Index == y.Index })
		if k < 0 {
			a.Terms = append(a.Terms, x)
		} else if !term.Equal(term.Eta(x.To), term.Eta(a.Terms[k].To)) {
			return api.Inst{}, false
		}
	}
	for _, x := range b.Types {
		k := slices.IndexFunc(a.Types, func(y api.TypeBind) bool { return x.Name == y.Name && x.Index == y.Index })
		if k < 0 {
			a.Types = append(a.Types, x)
		} else if !types.Equal(x.To, a.Types[k].To) {
			return api.Inst{}, false
		}
	}
	return a, true
}

// Sides and pairs may be exchanged.
func TestP94Random(t *testing.T) {
	thy := small()
	for seed := range 2000 {
		g := newGen(seed)
		l := g.pairs()
		_, e := Unify(thy, l)
		turned := slices.Clone(l)
		for i := range turned {
			turned[i].A, turned[i].B = turned[i].B, turned[i].A
		}
		_, f := Unify(thy, turned)
		slices.Reverse(turned)
		_, h := Unify(thy, turned)
		if e != f || e != h {
			t.Fatal(seed, e, f, h, pairText(l))
		}
	}
}

func TestP95Random(t *testing.T) {
	for seed := range 3000 {
		g := newGen(seed)
		x := g.of(g.typ(2), nil, 3)
		inst := func(of api.Term) api.Inst {
			i := g.special(term.Vars(of))
			for _, v := range term.TypeVariables(of) {
				if v.Op == api.TVar && g.Intn(2) == 0 {
					i.Types = append(i.Types, api.TypeBind{Name: v.Name, Index: v.Index, To: g.typ(2)})
				}
			}
			return i
		}
		a := inst(x)
		b := inst(term.Apply(a, x))
		c, e := Compose(a, b)
		if e != api.OK || !term.Equal(term.Apply(c, x), term.Apply(b, term.Apply(a, x))) {
			t.Fatal(seed, e, brief(x), instText(a), instText(b), instText(c))
		}
	}
}
