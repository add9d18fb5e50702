package unify

import (
	"fmt"
	"math/rand"
	"testing"

	"triforium/api"
	"triforium/pattern"
	"triforium/term"
	"triforium/types"
)

// gen makes random patterns.
type gen struct {
	*rand.Rand
	vars  []api.Term // those that were used
	tvars bool       // whether there are type variables
}

// typ returns one of a few types.
func (g *gen) typ(depth int) api.Type {
	switch n := g.Intn(8); {
	case depth > 0 && n < 3:
		return types.Fun(g.typ(depth-1), g.typ(depth-1))
	case depth > 0 && n == 3:
		return api.Type{Op: api.TCon, Name: "list", Args: []api.Type{g.typ(depth - 1)}}
	case g.tvars && n == 4:
		return typ([]string{"?a", "?b{c}", "?e{d}", "'k{c}"}[g.Intn(4)])
	}
	return typ("N")
}

// of returns a term of a type, within abstractions of some types.
func (g *gen) of(t api.Type, around []api.Type, depth int) api.Term {
	if types.IsFun(t) && g.Intn(4) > 0 {
		return api.Term{Op: api.Abs, Name: "v", Type: t.Args[0], Kids: []api.Term{g.of(t.Args[1], append(around, t.Args[0]), depth)}}
	}
	if g.Intn(3) == 0 || depth == 0 {
		return g.flexible(t, around)
	}
	var heads []api.Term
	for i, k := range around {
		if ends(k, t) {
			heads = append(heads, api.Term{Op: api.Bound, Num: len(around) - 1 - i, Type: k})
		}
	}
	for _, c := range small().Consts {
		for _, k := range g.instances(c.Type, t) {
			heads = append(heads, api.Term{Op: api.Const, Name: c.Name, Type: k})
		}
	}
	name := fmt.Sprint("v", len(typeText(t)))
	if typeText(t) == "nat" {
		heads = append(heads, api.Term{Op: api.Free, Name: name, Type: t})
	}
	if len(heads) == 0 {
		return g.flexible(t, around)
	}
	h := heads[g.Intn(len(heads))]
	k := h.Type
	if h.Op == api.Bound {
		h.Type = api.Type{}
	}
	for !types.Equal(k, t) {
		h = api.Term{Op: api.App, Kids: []api.Term{h, g.of(k.Args[0], around, depth-1)}}
		k = k.Args[1]
	}
	return h
}

// instances returns instances of the type of a constant that end in a type.
func (g *gen) instances(c, t api.Type) []api.Type {
	var l []api.Type
	for range 2 {
		var b []api.TypeBind
		for _, v := range types.Variables(c) {
			to := t
			if g.Intn(3) == 0 {
				to = g.typ(1)
			}
			if !types.HasSort(small(), to, v.Sort) {
				return nil
			}
			b = append(b, api.TypeBind{Name: v.Name, To: to})
		}
		if k := types.Apply(b, c); ends(k, t) {
			l = append(l, k)
		}
	}
	return l
}

// ends reports whether a type is another one, or one of functions to it.
func ends(k, t api.Type) bool {
	for ; !types.Equal(k, t); k = k.Args[1] {
		if !types.IsFun(k) {
			return false
		}
	}
	return true
}

// flexible returns a variable of a few, with arguments: bound variables, or other terms.
func (g *gen) flexible(t api.Type, around []api.Type) api.Term {
	if len(g.vars) > 0 && g.Intn(2) == 0 {
		for range 4 {
			v := g.vars[g.Intn(len(g.vars))]
			if ends(v.Type, t) && len(g.vars) < 12 {
				return g.applied(v, t, around)
			}
		}
	}
	v := api.Term{Op: api.Var, Name: []string{"F", "G", "H"}[g.Intn(3)], Num: len(g.vars)}
	k := t
	for range g.Intn(max(1, 3-len(g.vars)/4)) { // fewer and fewer

		k = types.Fun(g.typ(1), k)
	}
	v.Type = k
	g.vars = append(g.vars, v)
	return g.applied(v, t, around)
}

// applied applies a variable to arguments, so that the type fits.
func (g *gen) applied(v api.Term, t api.Type, around []api.Type) api.Term {
	out := v
	for k := v.Type; !types.Equal(k, t); k = k.Args[1] {
		a := g.of(k.Args[0], around, g.Intn(2))
		for _, i := range g.Perm(len(around)) {
			if types.Equal(around[i], k.Args[0]) && g.Intn(3) > 0 {
				a = bound(len(around) - 1 - i)
			}
		}
		out = term.Apps(out, []api.Term{a})
	}
	return out
}

// loosened replaces parts of a term by variables with bound variables.
func (g *gen) loosened(t api.Term, around []api.Type) api.Term {
	if g.Intn(5) == 0 {
		if k, ok := typeIn(t, around); ok {
			return g.flexible(k, around)
		}
	}
	if len(t.Kids) == 0 {
		return t
	}
	if t.Op == api.Abs {
		t.Kids = []api.Term{g.loosened(t.Kids[0], append(around, t.Type))}
		return t
	}
	f, args := term.Spine(t)
	for i := range args {
		args[i] = g.loosened(args[i], around)
	}
	return term.Apps(f, args)
}

// typeIn returns the type of a term within abstractions.
func typeIn(t api.Term, around []api.Type) (api.Type, bool) {
	k, e := term.TypeOf(abstraction(around, t))
	if e != api.OK {
		return api.Type{}, false
	}
	for range around {
		k = k.Args[1]
	}
	return k, true
}

// special returns an instantiation of variables by terms, perhaps patterns.
func (g *gen) special(vars []api.Term) api.Inst {
	var i api.Inst
	for _, v := range vars {
		if g.Intn(3) > 0 {
			i.Terms = append(i.Terms, api.TermBind{Name: v.Name, Index: v.Num, To: g.of(v.Type, nil, 2)})
		}
	}
	return i
}

// pairs returns random pairs, many of which can be made equal.
func (g *gen) pairs() []pattern.Pair {
	var l []pattern.Pair
	for range 1 + g.Intn(2) {
		t := g.typ(2)
		a := g.of(t, nil, 3)
		b := g.of(t, nil, 2)
		if g.Intn(3) > 0 { // an instance of it
			b = a
			i := g.special(term.Vars(a))
			if now, e := term.Norm(term.Apply(i, a), 100); e == api.OK {
				b = now
			}
			b = g.loosened(b, nil)
		}
		if g.Intn(3) == 0 {
			a = term.Eta(a)
		}
		l = append(l, pattern.Pair{A: a, B: b})
	}
	return l
}

func newGen(seed int) *gen {
	return &gen{Rand: rand.New(rand.NewSource(int64(seed))), tvars: seed%3 == 0}
}

func pairText(l []pattern.Pair) string {
	s := ""
	for _, p := range l {
		s += brief(p.A) + "  =  " + brief(p.B) + "\n"
	}
	return s
}

// The unifiers are those of the document's search, word by word.
func TestP101Random(t *testing.T) {
	thy := small()
	found, flex, none, beyond := 0, 0, 0, 0
	for seed := range 2000 {
		g := newGen(seed)
		l := g.pairs()
		depth := g.Intn(4)
		got, more, e := First(thy, l, depth, 20)
		if e != api.OK {
			t.Fatal(seed, e)
		}
		want, ok := naiveFirst(thy, l, depth, 21)
		if !ok {
			beyond++
			continue
		}
		if more != (len(want) > 20) || len(got) != min(20, len(want)) {
			t.Fatal(seed, len(got), len(want), pairText(l))
		}
		for i := range got {
			if unifierText(got[i]) != unifierText(want[i]) {
				t.Fatal(seed, i, pairText(l), unifierText(got[i]), "\n", unifierText(want[i]))
			}
			if len(got[i].Flex) > 0 {
				flex++
			}
		}
		found += len(got)
		if len(got) == 0 {
			none++
		}
	}
	if found < 1000 || flex < 500 || none < 500 || beyond > 10 {
		t.Error(found, flex, none, beyond)
	}
}

// What Close makes of a unifier solves the pairs.
func TestP102Random(t *testing.T) {
	thy := small()
	solved := 0
	for seed := range 2000 {
		g := newGen(seed)
		l := g.pairs()
		us, _, e := First(thy, l, 3, 10)
		if e != api.OK {
			t.Fatal(seed, e)
		}
		for _, u := range us {
			if len(u.Flex) > 0 && indexOfPairs(l) > indexOfUnifier(u) {
				continue
			}
			i, e := Close(thy, u)
			if e != api.OK || !pattern.Solves(thy, i, l) {
				t.Fatal(seed, e, pairText(l), unifierText(u), "\n", instText(i))
			}
			solved++
		}
	}
	if solved < 1000 {
		t.Error(solved)
	}
}

func indexOfPairs(l []pattern.Pair) int {
	n := -1
	for _, p := range l {
		n = max(n, term.MaxIndex(p.A), term.MaxIndex(p.B))
	}
	return n
}

func indexOfUnifier(u Unifier) int {
	n := indexOfPairs(u.Flex)
	for _, b := range u.Inst.Terms {
		n = max(n, term.MaxIndex(b.To))
	}
	return n
}

// patterns returns a term in which variables have bound variables as arguments alone.
func (g *gen) patterns(t api.Term) (api.Term, bool) {
	n, e := term.Norm(t, 1000)
	return n, e == api.OK && pattern.Is(n)
}

// Of patterns there is the unifier of layer 9, and no other one.
func TestP103Random(t *testing.T) {
	thy := small()
	unified, failed := 0, 0
	for seed := range 2000 {
		g := newGen(seed)
		var l []pattern.Pair
		for _, p := range g.pairs() {
			a, ok := g.patterns(p.A)
			b, good := g.patterns(p.B)
			if ok && good {
				l = append(l, pattern.Pair{A: a, B: b})
			}
		}
		want, f := pattern.Unify(thy, l)
		for depth := range 2 {
			us, more, e := First(thy, l, depth, 1)
			if e != api.OK || more || len(us) == 0 != (f == api.ErrFail) {
				t.Fatal(seed, e, f, more, pairText(l))
			}
			if f == api.ErrFail {
				failed++
				continue
			}
			unified++
			if len(us[0].Flex) > 0 {
				t.Fatal(seed, unifierText(us[0]))
			}
			for _, p := range l {
				vars := append(term.Vars(p.A), term.Vars(p.B)...)
				for i := 0; i < len(vars); i += 50 {
					some := vars[i:min(i+50, len(vars))]
					a, e := pattern.Least(thy, want, us[0].Inst, some)
					b, f := pattern.Least(thy, us[0].Inst, want, some)
					if !a || !b || e != api.OK || f != api.OK {
						t.Fatal(seed, a, b, e, f, pairText(l), unifierText(us[0]), instText(want))
					}
				}
			}
		}
	}
	if unified < 500 || failed < 250 {
		t.Error(unified, failed)
	}
}

// bodies returns a closed abstraction over some types that ends in nat, made by at most so many imitations and projections, of which it counts those it takes.
func (g *gen) body(around []api.Type, t api.Type, most int, count *int) (api.Term, bool) {
	if types.IsFun(t) {
		b, ok := g.body(append(around, t.Args[0]), t.Args[1], most, count)
		return api.Term{Op: api.Abs, Name: "x", Type: t.Args[0], Kids: []api.Term{b}}, ok
	}
	if *count == most {
		return api.Term{}, false
	}
	*count++
	heads := []api.Term{of(kinds, "z"), of(kinds, "s"), of(kinds, "c"), of(kinds, "b"), of(kinds, "$n"), of(kinds, "$f")}
	for i, k := range around {
		heads = append(heads, api.Term{Op: api.Bound, Num: len(around) - 1 - i, Type: k}, api.Term{Op: api.Bound, Num: len(around) - 1 - i, Type: k})
	}
	h := heads[g.Intn(len(heads))]
	k := h.Type
	if h.Op == api.Bound {
		h.Type = api.Type{}
	}
	for types.IsFun(k) {
		a, ok := g.body(around, k.Args[0], most, count)
		if !ok {
			return api.Term{}, false
		}
		h = term.Apps(h, []api.Term{a})
		k = k.Args[1]
	}
	return h, types.Equal(k, t)
}

// What a few imitations and projections make is found within that depth.
func TestP104Random(t *testing.T) {
	thy := small()
	found := 0
	for seed := range 3000 {
		g := newGen(seed)
		n, count := g.Intn(3), 0
		k := typ("N")
		var args []api.Term
		for range n {
			a := typ([]string{"N", "N>N", "N>N>N"}[g.Intn(3)])
			arg, ok := g.body(nil, a, 4, new(int))
			if !ok {
				break
			}
			k = types.Fun(a, k)
			args = append([]api.Term{arg}, args...)
		}
		to, ok := g.body(nil, k, 4, &count)
		if l, _ := types.Strip(k); !ok || len(l) != len(args) {
			continue
		}
		f := api.Term{Op: api.Var, Name: "F", Type: k}
		special := api.Inst{Terms: []api.TermBind{{Name: "F", To: to}}}
		flex := term.Apps(f, args)
		rigid := term.Apply(special, flex)
		is := false
		for u := range All(thy, []pattern.Pair{{A: flex, B: rigid}}, count) {
			least, e := pattern.Least(thy, u.Inst, special, []api.Term{f})
			if e != api.OK {
				t.Fatal(seed, e)
			}
			if least {
				is = true
				break
			}
		}
		if !is {
			t.Fatal(seed, brief(flex), brief(rigid), brief(to), count)
		}
		found++
	}
	if found < 750 {
		t.Error(found)
	}
}

// The first unifiers are the same, however many are asked for, and asked again.
func TestP105Random(t *testing.T) {
	thy := small()
	for seed := range 300 {
		g := newGen(seed)
		l := g.pairs()
		all := All(thy, l, 3)
		us, more, e := First(thy, l, 3, 8)
		if e != api.OK {
			t.Fatal(e)
		}
		for n := range len(us) + 1 {
			i := 0
			for u := range all {
				if i == n {
					break
				}
				if unifierText(u) != unifierText(us[i]) {
					t.Fatal(seed, i)
				}
				i++
			}
			some, left, _ := First(thy, l, 3, n)
			if i != n || len(some) != n || left != (more || n < len(us)) {
				t.Fatal(seed, n, i, len(some), left)
			}
		}
	}
}
