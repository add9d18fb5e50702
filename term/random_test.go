package term

import (
	"fmt"
	"math/rand"
	"slices"
	"testing"

	"triforium/api"
	"triforium/types"
)

// gen makes random terms. In what one of them makes each variable has one type.
type gen struct {
	*rand.Rand
	names map[string]string // of the variables of each type
}

func newGen(seed int) gen {
	return gen{rand.New(rand.NewSource(int64(seed))), map[string]string{"nat": "nnat"}}
}

// typ returns one of a few types.
func (g gen) typ(depth int) api.Type {
	if depth > 0 && g.Intn(2) == 0 {
		return types.Fun(g.typ(depth-1), g.typ(depth-1))
	}
	return typ([]string{"nat", "prop", "'a{c}", "?b.0"}[g.Intn(4)])
}

// term returns a right term of a type, within abstractions of some types; the outermost one is the first one.
func (g gen) term(t api.Type, around []api.Type, depth int) api.Term {
	if depth > 0 {
		switch g.Intn(5) {
		case 0, 1: // an application, often a redex
			a := g.typ(1)
			return app(g.term(types.Fun(a, t), around, depth-1), g.term(a, around, depth-1))
		case 2:
			if types.IsFun(t) && g.Intn(2) == 0 { // what is replaced by Eta
				return api.Term{Op: api.Abs, Name: "e", Type: t.Args[0], Kids: []api.Term{app(lift(g.term(t, around, depth-1), 1), bound(0))}}
			}
		}
		if types.IsFun(t) {
			return api.Term{Op: api.Abs, Name: "x", Type: t.Args[0], Kids: []api.Term{g.term(t.Args[1], append(around, t.Args[0]), depth-1)}}
		}
	}
	for try := range around {
		if i := len(around) - 1 - g.Intn(len(around)); types.Equal(around[i], t) && try < 3 {
			return bound(len(around) - 1 - i)
		}
	}
	key, _ := types.Text(t)
	name, ok := g.names[key]
	if !ok {
		name = fmt.Sprint("n", len(g.names))
		g.names[key] = name
	}
	if g.Intn(2) == 0 {
		return api.Term{Op: api.Free, Name: name, Type: t}
	}
	return api.Term{Op: api.Var, Name: name, Num: g.Intn(2), Type: t}
}

// wild returns a term that need not have the right form, nor a type.
func (g gen) wild(depth int) api.Term {
	t := api.Term{Op: 1 + g.Intn(6), Num: g.Intn(4) - 1, Name: []string{"", "a", "x"}[g.Intn(3)]}
	if g.Intn(12) == 0 {
		t.Op = g.Intn(10) - 1
	}
	if g.Intn(3) == 0 {
		t.Type = g.typ(1)
	}
	if depth == 0 {
		return t
	}
	n := g.Intn(3)
	switch {
	case t.Op == api.App && g.Intn(8) > 0:
		n = 2
	case t.Op == api.Abs && g.Intn(8) > 0:
		n = 1
	case t.Op < api.Abs && g.Intn(3) > 0:
		n = 0
	}
	for range n {
		t.Kids = append(t.Kids, g.wild(depth-1))
	}
	if t.Op == api.App && n == 2 && g.Intn(3) == 0 {
		t.Kids[0] = abs(g.wild(depth - 1))
	}
	return t
}

// naivePut is what the document says of Put, word by word.
func naivePut(body, a api.Term, around int) api.Term {
	if body.Op == api.Bound && body.Num == around {
		return Lift(a, around)
	}
	out := body
	if body.Op == api.Bound && body.Num > around {
		out.Num--
	}
	if body.Op == api.Abs {
		around++
	}
	out.Kids = nil
	for _, k := range body.Kids {
		out.Kids = append(out.Kids, naivePut(k, a, around))
	}
	return out
}

// naiveStep makes the first step of a term, a node ahead of its Kids.
func naiveStep(t api.Term) (api.Term, bool) {
	if t.Op == api.App && len(t.Kids) == 2 && t.Kids[0].Op == api.Abs && len(t.Kids[0].Kids) == 1 {
		return naivePut(t.Kids[0].Kids[0], t.Kids[1], 0), true
	}
	for i, k := range t.Kids {
		if now, ok := naiveStep(k); ok {
			t.Kids = slices.Clone(t.Kids)
			t.Kids[i] = now
			return t, true
		}
	}
	return t, false
}

// naiveNorm is what the document says of Norm, word by word.
func naiveNorm(t api.Term, fuel int) (api.Term, api.Errno) {
	if n, d := Size(t); n > api.MaxTerm {
		return api.Term{}, api.ErrCount
	} else if d > api.MaxDepth {
		return api.Term{}, api.ErrDepth
	}
	for steps := 0; ; steps++ {
		now, ok := naiveStep(t)
		if !ok {
			return t, api.OK
		}
		if steps >= fuel {
			return api.Term{}, api.ErrFuel
		}
		if n, d := Size(now); n > api.MaxTerm {
			return api.Term{}, api.ErrCount
		} else if d > api.MaxDepth {
			return api.Term{}, api.ErrDepth
		}
		t = now
	}
}

func TestP31RandomNorm(t *testing.T) {
	codes := map[api.Errno]int{}
	for seed := range 30000 {
		g := newGen(seed)
		x := g.wild(5)
		if seed%3 == 0 {
			x = g.term(g.typ(1), nil, 5)
		}
		fuel := g.Intn(12) - 1
		got, e := Norm(x, fuel)
		want, f := naiveNorm(x, fuel)
		codes[e]++
		if e != f || text(got) != text(want) {
			t.Fatal(seed, text(x), e, f, text(got))
		}
	}
	if codes[api.OK] < 10000 || codes[api.ErrFuel] < 1000 {
		t.Error(codes)
	}
}

// Terms that grow without bound: the error is that of the first step that is too large.
func TestP31GrowingNorm(t *testing.T) {
	codes := map[api.Errno]int{}
	for seed := range 120 {
		g := newGen(seed)
		half := abs(g.uses(2 + g.Intn(6)))
		x := app(half, half)
		if seed%2 == 0 { // copies of copies
			x = app(half, app(abs(g.uses(2+g.Intn(3))), tree(1+2*g.Intn(1500), of("$a:N"))))
		}
		for range g.Intn(480) {
			if x = app(bound(5), x); g.Intn(4) == 0 {
				x = abs(x)
			}
		}
		got, e := Norm(x, 60)
		want, f := naiveNorm(x, 60)
		codes[e]++
		if e != f || text(got) != text(want) {
			t.Fatal(seed, e, f)
		}
	}
	if codes[api.OK] < 5 || codes[api.ErrDepth] < 5 || codes[api.ErrCount] < 5 || codes[api.ErrFuel] < 5 {
		t.Error(codes)
	}
}

// uses returns applications of n uses of the innermost variable.
func (g gen) uses(n int) api.Term {
	if n == 1 {
		return bound(0)
	}
	k := 1 + g.Intn(n-1)
	if g.Intn(4) == 0 {
		return app(g.uses(k), abs(lift(g.uses(n-k), 1)))
	}
	return app(g.uses(k), g.uses(n-k))
}

func TestP32Substitution(t *testing.T) {
	for seed := range 4000 {
		g := newGen(seed)
		x, fresh := of("$nnat:N"), of("$fresh:N")
		right := g.term(g.typ(1), []api.Type{typ("nat"), typ("prop")}, 4)
		for _, y := range []api.Term{right, g.wild(4)} {
			if !Equal(Put(Bind(x, y), x), y) {
				t.Fatal("Put of Bind", seed, text(y))
			}
			if !Equal(Bind(fresh, Put(y, fresh)), withoutKidsOfBounds(y)) {
				t.Fatal("Bind behind Put", seed, text(y))
			}
			if !Equal(Lift(Lift(y, 3), -3), y) || text(Put(y, right)) != text(naivePut(y, right, 0)) {
				t.Fatal("Lift", seed, text(y))
			}
		}
	}
}

// withoutKidsOfBounds returns a term without the Kids that a Bound of the outermost Abs around it has: Put leaves them out.
func withoutKidsOfBounds(t api.Term) api.Term {
	var clear change = func(t api.Term, around int) (api.Term, bool) {
		if t.Op == api.Bound && t.Num == around {
			return api.Term{Op: api.Bound, Num: t.Num}, true
		}
		return t, false
	}
	return rewrite(t, 0, clear)
}

func TestP32Instances(t *testing.T) {
	for seed := range 2000 {
		g := newGen(seed)
		k := g.typ(2)
		x := g.term(k, nil, 5)
		i := api.Inst{Types: []api.TypeBind{{Name: "b", To: g.typ(1)}}}
		for _, v := range Vars(x) { // right binds: of the variables' types behind those of types
			if g.Intn(2) == 0 {
				i.Terms = append(i.Terms, api.TermBind{Name: v.Name, Index: v.Num, To: g.term(types.Apply(i.Types, v.Type), nil, 3)})
			}
		}
		got, e := TypeOf(Apply(i, x))
		if e != api.OK || !types.Equal(got, types.Apply(i.Types, k)) {
			t.Fatal(seed, text(x), e)
		}
	}
}

// steps returns all terms that one step makes of a term, wherever its redex is.
func steps(t api.Term) []api.Term {
	var l []api.Term
	if b, ok := Beta(t); ok {
		l = append(l, b)
	}
	for i, k := range t.Kids {
		for _, s := range steps(k) {
			c := Copy(t)
			c.Kids[i] = s
			l = append(l, c)
		}
	}
	return l
}

func TestP33Types(t *testing.T) {
	made := 0
	for seed := range 2000 {
		g := newGen(seed)
		k := g.typ(2)
		x := g.term(k, nil, 5)
		check := func(y api.Term) {
			if got, e := TypeOf(y); e != api.OK || !types.Equal(got, k) {
				t.Fatal(seed, text(x), text(y), e)
			}
		}
		check(x)
		check(Eta(x))
		for _, y := range steps(x) {
			made++
			check(y)
		}
		n, e := Norm(x, 500)
		if e != api.OK {
			t.Fatal(seed, text(x), e)
		}
		check(n)
	}
	if made < 2000 {
		t.Error(made)
	}
}

func TestP34NormalForms(t *testing.T) {
	for seed := range 3000 {
		g := newGen(seed)
		x := g.term(g.typ(2), nil, 5)
		n, e := Norm(x, 1000)
		if e != api.OK || len(steps(n)) != 0 {
			t.Fatal("a redex is left", seed, text(n), e)
		}
		if again, e := Norm(n, 0); e != api.OK || text(again) != text(n) {
			t.Fatal("idempotent", seed)
		}
		for l := steps(x); len(l) > 0; l = steps(x) { // any redex first
			x = l[g.Intn(len(l))]
		}
		if !Equal(x, n) {
			t.Fatal("another normal form", seed, text(x), text(n))
		}
		for _, y := range []api.Term{x, g.wild(5)} {
			eta := Eta(y)
			if replaceable(eta) || text(Eta(eta)) != text(eta) {
				t.Fatal("Eta", seed, text(y), text(eta))
			}
		}
	}
}

// replaceable reports whether Eta has something to replace.
func replaceable(t api.Term) bool {
	for n := range Nodes(t) {
		if n.Op == api.Abs && len(n.Kids) == 1 {
			b := n.Kids[0]
			if b.Op == api.App && len(b.Kids) == 2 && b.Kids[1].Op == api.Bound && b.Kids[1].Num == 0 && Equal(Put(b.Kids[0], nat(api.Const, "hole")), Put(b.Kids[0], nat(api.Const, "other"))) {
				return true
			}
		}
	}
	return false
}

func TestP35RandomPropositions(t *testing.T) {
	for seed := range 1000 {
		g := newGen(seed)
		a, b, w := g.term(typ("prop"), nil, 3), g.term(typ("prop"), nil, 3), g.wild(4)
		if x, y, ok := IsImp(Imp(a, w)); !ok || !Equal(x, a) || !Equal(y, w) {
			t.Fatal("Imp", seed)
		}
		x := of("$nnat:N")
		if abs, ok := IsAll(All(x, b)); !ok || !Equal(Put(abs.Kids[0], x), b) || abs.Name != "nnat" || !types.Equal(abs.Type, x.Type) {
			t.Fatal("All", seed)
		}
		if eq, e := Eq(a, b); e != api.OK {
			t.Fatal("Eq", seed, e)
		} else if x, y, ok := IsEq(eq); !ok || !Equal(x, a) || !Equal(y, b) {
			t.Fatal("IsEq", seed)
		}
		if x, ok := IsProtect(Protect(w)); !ok || !Equal(x, w) {
			t.Fatal("Protect", seed)
		}
		if h, l := Spine(w); text(Apps(h, l)) != text(Apps(h, l)) || !Equal(Apps(h, l), plainApps(w)) {
			t.Fatal("Spine", seed, text(w))
		}
		for _, p := range []api.Term{Imp(a, b), All(x, b), Protect(a)} {
			if k, e := TypeOf(p); e != api.OK || !types.Equal(k, types.Prop()) {
				t.Fatal(seed, text(p), e)
			}
		}
	}
}

// plainApps returns a term whose Apps from the root to the head have no fields but their Kids, as those that Apps makes.
func plainApps(t api.Term) api.Term {
	if t.Op != api.App || len(t.Kids) != 2 {
		return t
	}
	return app(plainApps(t.Kids[0]), t.Kids[1])
}

func TestP36RandomTexts(t *testing.T) {
	for seed := range 2000 {
		g := newGen(seed)
		x := g.term(g.typ(2), nil, 5)
		s, e := Text(x)
		y, f := Read(s)
		if e != api.OK || f != api.OK || text(x) != text(y) {
			t.Fatal(seed, s, e, f)
		}
		i := g.Intn(len(s))
		for _, changed := range []string{s[:i] + s[i+1:], s[:i] + string(" a1.:',(){}?$#\\\xff"[g.Intn(16)]) + s[i+1:]} {
			z, e := Read(changed)
			if e != api.OK {
				continue
			}
			if back, _ := Text(z); back != changed {
				t.Fatal(changed, back)
			}
		}
	}
}

func TestP31RandomOrder(t *testing.T) {
	for seed := range 5000 {
		g := newGen(seed)
		a, b, c := g.wild(2), g.wild(2), g.wild(2)
		if Compare(a, b) != -Compare(b, a) || (Compare(a, b) == 0) != Equal(a, b) || Compare(a, Copy(a)) != 0 {
			t.Fatal(seed, text(a), text(b))
		}
		if Compare(a, b) <= 0 && Compare(b, c) <= 0 && Compare(a, c) > 0 {
			t.Fatal("transitive", seed, text(a), text(b), text(c))
		}
	}
}
