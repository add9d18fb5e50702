package theory

import (
	"fmt"
	"math/rand"
	"slices"
	"strings"
	"testing"

	"triforium/api"
	"triforium/term"
	"triforium/types"
)

func app(f, a api.Term) api.Term { return api.Term{Op: api.App, Kids: []api.Term{f, a}} }

func constant(name string, t api.Type) api.Term {
	return api.Term{Op: api.Const, Name: name, Type: t}
}

// gen makes random terms of a theory, and extends it.
type gen struct {
	*rand.Rand
	thy    api.Theory
	letter string // of the names of what is new
}

func newGen(seed int) *gen {
	return &gen{rand.New(rand.NewSource(int64(seed))), small(), "k"}
}

func (g *gen) typ() api.Type {
	return typ([]string{"nat", "prop", "'a", "list('a)", "list(nat)", "pair('a, 'b)", "fun(nat, nat)", "'b"}[g.Intn(8)])
}

// term returns a term of a type without variables, with type variables among those of the type.
func (g *gen) term(t api.Type, depth int) api.Term {
	use := g.thy.Consts[4+g.Intn(len(g.thy.Consts)-4)]
	if g.Intn(2) == 0 { // an instance of a constant that has this type
		if l, e := types.Match(g.thy, use.Type, t, nil); e == api.OK {
			return constant(use.Name, types.Apply(l, use.Type))
		}
	}
	if depth > 0 {
		from := []api.Type{typ("nat"), t, api.Type{Op: api.TCon, Name: "list", Args: []api.Type{t}}}[g.Intn(3)]
		if args := t.Args; len(args) > 0 && g.Intn(2) == 0 {
			from = args[g.Intn(len(args))]
		}
		if types.IsFun(t) && g.Intn(2) == 0 {
			return api.Term{Op: api.Abs, Name: "x", Type: t.Args[0], Kids: []api.Term{g.term(t.Args[1], depth-1)}}
		}
		f := []api.Term{constant("two", types.Fun(from, t)), app(constant("op", types.Fun(types.Fun(from, t), types.Fun(types.Fun(from, t), types.Fun(from, t)))), constant("two", types.Fun(from, t)))}
		if g.Intn(3) > 0 {
			return app(f[0], g.term(from, depth-1))
		}
		return app(app(f[1], constant("two", types.Fun(from, t))), g.term(from, depth-1))
	}
	return constant("some", t)
}

// grow extends the theory by a definition, if it is permitted.
func (g *gen) grow() {
	name := fmt.Sprint(g.letter, len(g.thy.Consts))
	var t api.Theory
	var e api.Errno
	switch g.Intn(3) {
	case 0:
		t, e = Define(g.thy, "T", name, g.term(g.typ(), 3))
	case 1:
		at := []string{"nat", "list('a)", "pair('a, 'b)", "prop", "fun('a, 'b)"}[g.Intn(5)]
		c := []string{"some", "op"}[g.Intn(2)]
		k := typ(at)
		if c == "op" {
			k = types.Fun(k, types.Fun(k, k))
		}
		t, e = Overload(g.thy, "T", c, typ(at), g.term(k, 3))
	case 2:
		t, e = Extend(g.thy, "T", api.Theory{Consts: []api.ConstDecl{{Name: name, Type: general(g.typ())}}, Types: []api.TypeDecl{{Name: name}}, Oracles: []string{name}})
	}
	if e == api.OK {
		g.thy = t
	}
}

// naiveUnfolded is what the document says of Unfolded, word by word.
func naiveUnfolded(t api.Theory, x api.Term) (api.Term, api.Errno) {
	for {
		now, ok := naiveStep(t, x)
		if !ok {
			return x, api.OK
		}
		if n, d := term.Size(now); n > api.MaxTerm {
			return api.Term{}, api.ErrCount
		} else if d > api.MaxDepth {
			return api.Term{}, api.ErrDepth
		}
		x = now
	}
}

// naiveStep replaces the first use of a constant that a definition fits.
func naiveStep(t api.Theory, x api.Term) (api.Term, bool) {
	if x.Op == api.Const {
		for _, d := range t.Axioms {
			left, right, _ := term.IsEq(d.Prop)
			if d.Kind != api.Defining || left.Name != x.Name {
				continue
			}
			if l, e := types.Match(t, left.Type, x.Type, nil); e == api.OK {
				return term.Apply(api.Inst{Types: l}, right), true
			}
		}
	}
	for i, k := range x.Kids {
		if now, ok := naiveStep(t, k); ok {
			x.Kids = slices.Clone(x.Kids)
			x.Kids[i] = now
			return x, true
		}
	}
	return x, false
}

func TestP41Unfolded(t *testing.T) {
	thy, _ := Define(small(), "T", "one", of("(s:F(N, N) z:N)"))
	thy, _ = Define(thy, "T", "twice", of("(\\f:F('a, 'a) . (\\x:'a . (#1 (#1 #0))))"))
	thy, _ = Define(thy, "T", "three", of("((twice:F(F(N, N), F(N, N)) s:F(N, N)) one:N)"))
	thy, _ = Define(thy, "T", "drei", of("three:N"))
	thy, e := Overload(thy, "T", "some", typ("list('a)"), of("(two:F('a, list('a)) some:'a)"))
	if e != api.OK {
		t.Fatal(e)
	}
	for _, x := range []struct{ t, want string }{
		{"$x:N", "$x:N"}, {"z:N", "z:N"}, {"one:N", "(s:F(N, N) z:N)"}, {"drei:N", "(((\\f:F(N, N) . (\\x:N . (#1 (#1 #0)))) s:F(N, N)) (s:F(N, N) z:N))"},
		{"(\\x:'c . ((twice:F(F('c, 'c), F('c, 'c)) (\\y:'c . #0)) #0))", "(\\x:'c . (((\\f:F('c, 'c) . (\\x:'c . (#1 (#1 #0)))) (\\y:'c . #0)) #0))"},
		{"some:list(list(?q.7{ord}))", "(two:F(list(?q.7{ord}), list(list(?q.7{ord}))) (two:F(?q.7{ord}, list(?q.7{ord})) some:?q.7{ord}))"}, {"some:N", "some:N"}, {"($f:F(N, P) one:N)", "($f:F(N, P) (s:F(N, N) z:N))"},
	} {
		got, e := Unfolded(thy, of(x.t))
		if e != api.OK || text(got) != text(of(x.want)) {
			t.Error(x.t, text(got), e)
		}
	}
	for i, x := range []struct {
		thy api.Theory
		t   api.Term
		e   api.Errno
	}{{api.Theory{Name: "T"}, api.Term{}, api.ErrTheory}, {thy, api.Term{}, api.ErrForm}, {thy, of("q:N"), api.ErrMissing}, {thy, of("one:P"), api.ErrType}, {thy, of("($x:N $x:N)"), api.ErrType}} {
		if got, e := Unfolded(x.thy, x.t); e != x.e || got.Op != 0 {
			t.Error(i, e)
		}
	}
}

// What is special at one constructor may lead to what is special at another one, and back: unfolding ends where the term is too large.
func TestP41UnfoldedLimits(t *testing.T) {
	thy, _ := Overload(small(), "T", "some", typ("list('a)"), of("(two:F('a, list('a)) some:'a)"))
	thy, e := Overload(thy, "T", "some", typ("nat"), of("(hd:F(list(N), N) some:list(N))"))
	if e != api.OK {
		t.Fatal(e)
	}
	if got, e := Unfolded(thy, of("some:N")); e != api.ErrDepth || got.Op != 0 {
		t.Error(e)
	}
	thy, _ = Overload(small(), "T", "some", typ("list('a)"), of("((op:F(list('a), F(list('a), list('a))) (two:F('a, list('a)) some:'a)) (two:F('a, list('a)) some:'a))"))
	deep := "some:" + strings.Repeat("list(", 20) + "N" + strings.Repeat(")", 20)
	if _, e := Unfolded(thy, of(deep)); e != api.ErrCount {
		t.Error(e)
	}
	if got, e := Unfolded(thy, of("some:list(list(list(N)))")); e != api.OK {
		t.Error(e)
	} else if n, _ := term.Size(got); n != 1+8*7 {
		t.Error(n)
	}
	// many constants, each the next one of a pair: the types double
	thy = small()
	for i := range 60 {
		use := fmt.Sprintf("(two:F(pair('a, 'a), 'a) k%d:pair('a, 'a))", i-1)
		if i == 0 {
			use = "(two:F(N, 'a) z:N)"
		}
		if thy, e = Define(thy, "T", fmt.Sprint("k", i), of(use)); e != api.OK {
			t.Fatal(e)
		}
	}
	if got, e := Unfolded(thy, of("k10:N")); e != api.OK || check(thy, got) != api.OK {
		t.Error(e)
	}
	if got, e := Unfolded(thy, of("k59:N")); e != api.ErrCount || got.Op != 0 {
		t.Error(e)
	}
	thy = small()
	for i := range 60 {
		use := fmt.Sprintf("(two:F(%s, 'a) k%d:%s)", "list(list(list(list(list(list(list(list(list('a)))))))))", i-1, "list(list(list(list(list(list(list(list(list('a)))))))))")
		if i == 0 {
			use = "(two:F(N, 'a) z:N)"
		}
		thy, _ = Define(thy, "T", fmt.Sprint("k", i), of(use))
	}
	if _, e := Unfolded(thy, of("k54:N")); e != api.OK {
		t.Error(e)
	}
	if _, e := Unfolded(thy, of("k59:N")); e != api.ErrDepth {
		t.Error(e)
	}
}

// sum returns a term of the type nat with 4n-3 nodes.
func sum(n int) api.Term {
	if n == 1 {
		return of("z:N")
	}
	return plus(sum(n/2), sum(n-n/2))
}

func plus(a, b api.Term) api.Term { return app(app(of("op:F(N, F(N, N))"), a), b) }

func suc(n int, x api.Term) api.Term {
	for range n {
		x = app(of("s:F(N, N)"), x)
	}
	return x
}

func TestP41UnfoldedLargest(t *testing.T) {
	thy, e := Define(small(), "T", "k", app(of("(\\x:N . #0)"), sum(1666))) // 6664 nodes
	if e != api.OK {
		t.Fatal(e)
	}
	k := of("k:N")
	x := suc(1, plus(k, plus(k, k)))
	got, e := Unfolded(thy, x)
	if n, _ := term.Size(got); e != api.OK || n != 20000 {
		t.Error(n, e)
	}
	if _, e := Unfolded(thy, suc(1, x)); e != api.ErrCount {
		t.Error(e)
	}
	thy, _ = Define(small(), "T", "k", suc(250, of("z:N")))
	got, e = Unfolded(thy, suc(249, k))
	if _, d := term.Size(got); e != api.OK || d != 500 {
		t.Error(d, e)
	}
	if _, e := Unfolded(thy, suc(250, k)); e != api.ErrDepth {
		t.Error(e)
	}
	if _, e := Unfolded(thy, suc(249, plus(k, of("z:N")))); e != api.ErrDepth {
		t.Error(e)
	}
}

// balanced returns a type of pairs with n nodes.
func balanced(n int) api.Type {
	if n < 3 {
		return []api.Type{{}, typ("nat"), typ("list(nat)")}[n]
	}
	return api.Type{Op: api.TCon, Name: "pair", Args: []api.Type{balanced((n - 1) / 2), balanced(n - 1 - (n-1)/2)}}
}

func lists(depth int) api.Type {
	x := typ("nat")
	for range depth - 1 {
		x = api.Type{Op: api.TCon, Name: "list", Args: []api.Type{x}}
	}
	return x
}

// The types of what is unfolded are right ones.
func TestP41UnfoldedLargestTypes(t *testing.T) {
	thy, e := Define(small(), "T", "k", of("(\\x:'a . (\\y:'b . (((two:F('a, F('a, F('b, N))) #1) #1) #0)))"))
	if e != api.OK {
		t.Fatal(e)
	}
	for i, x := range []struct {
		a, b api.Type
		e    api.Errno
	}{
		{balanced(9000), balanced(1996), api.OK}, {balanced(9000), balanced(1997), api.ErrCount}, {balanced(9001), balanced(1996), api.ErrCount}, {balanced(1996), balanced(9000), api.OK},
		{lists(498), lists(3), api.OK}, {lists(499), lists(3), api.ErrDepth}, {lists(3), lists(497), api.OK}, {lists(3), lists(498), api.ErrDepth},
	} {
		use := constant("k", types.Fun(x.a, types.Fun(x.b, typ("nat"))))
		got, e := Unfolded(thy, use)
		if e != x.e || e == api.OK && check(thy, got) != api.OK {
			t.Error(i, e, x.e)
		}
	}
}

func check(thy api.Theory, x api.Term) api.Errno {
	_, e := term.Check(thy, x)
	return e
}

func TestP41RandomUnfolded(t *testing.T) {
	codes := map[api.Errno]int{}
	for seed := range 60 {
		g := newGen(seed)
		for range 12 {
			g.grow()
		}
		for range 6 {
			x := g.term(g.typ(), 3)
			got, e := Unfolded(g.thy, x)
			want, f := naiveUnfolded(g.thy, x)
			codes[e]++
			if e != f || e == api.OK && text(got) != text(want) {
				t.Fatal(seed, text(x), text(got), e, f)
			}
		}
	}
	if codes[api.OK] < 200 {
		t.Error(codes)
	}
}

func TestP42Within(t *testing.T) {
	for seed := range 20 {
		g := newGen(seed)
		l := []api.Theory{Pure(), g.thy}
		for range 8 {
			g.grow()
			l = append(l, g.thy)
		}
		for i, a := range l {
			for k, b := range l {
				if i <= k && !Within(a, b) {
					t.Fatal(seed, "what is extended is within", i, k)
				}
				m, e := Merge("M", a, b)
				if e != api.OK || !Within(a, m) || !Within(b, m) {
					t.Fatal(seed, "Merge", e)
				}
				if Within(b, a) { // nothing changes but the name
					m.Name = a.Name
					if fmt.Sprint(m) != fmt.Sprint(a) {
						t.Fatal(seed, "a merge with what is within", i, k)
					}
				}
				for _, c := range l {
					if Within(a, b) && Within(b, c) && !Within(a, c) {
						t.Fatal(seed, "transitive")
					}
				}
			}
		}
	}
}

func TestP43Definitions(t *testing.T) {
	for seed := range 200 {
		g := newGen(seed)
		for range 6 {
			g.grow()
		}
		k := g.typ()
		rhs := g.term(k, 3)
		thy, e := Define(g.thy, "T", "new", rhs)
		if e == ErrDefine { // a type variable that is not in the type
			continue
		}
		declared, ok := Const(thy, "new")
		if e != api.OK || !ok || !types.Equal(declared, general(k)) {
			t.Fatal(seed, e)
		}
		a, e := Unfolded(thy, constant("new", k))
		b, f := Unfolded(thy, rhs)
		if e != f || text(a) != text(b) {
			t.Fatal(seed, text(a), text(b), e, f)
		}
		if e != api.OK {
			continue
		}
		if kind, e := term.Check(thy, a); e != api.OK || !types.Equal(kind, k) {
			t.Fatal(seed, "type", e)
		}
		if again, ok := naiveStep(thy, a); ok {
			t.Fatal(seed, "a definition fits", text(again))
		}
	}
}

func TestP44Merges(t *testing.T) {
	merged, failed := 0, 0
	for seed := range 400 {
		g := newGen(seed)
		for range 3 {
			g.grow()
		}
		h := &gen{rand.New(rand.NewSource(int64(seed + 1000))), g.thy, []string{"h", "k"}[seed%4/3]}
		for range 3 {
			g.grow()
			h.grow()
		}
		m, e := Merge("M", g.thy, h.thy)
		n, f := Merge("M", h.thy, g.thy)
		if e != f {
			t.Fatal(seed, e, f)
		}
		if e != api.OK {
			failed++
			continue
		}
		merged++
		if !Within(m, n) || !Within(n, m) || !Within(g.thy, m) || !Within(h.thy, m) || Check(m) != api.OK {
			t.Fatal(seed, "what both have")
		}
		if len(m.Consts) > len(g.thy.Consts)+len(h.thy.Consts) || Within(m, g.thy) != Within(h.thy, g.thy) {
			t.Fatal(seed, "more than both have")
		}
	}
	if merged < 100 || failed < 50 {
		t.Error(merged, failed)
	}
}

func TestP45Right(t *testing.T) {
	for seed := range 100 {
		g := newGen(seed)
		for range 10 {
			g.grow()
			if e := Check(g.thy); e != api.OK {
				t.Fatal(seed, e)
			}
		}
	}
	if Check(small()) != api.OK || Check(Pure()) != api.OK {
		t.Error("where the random ones begin")
	}
}

func TestP41NewMemory(t *testing.T) {
	a := small()
	before := fmt.Sprint(a)
	rhs := of("(\\x:'a{ord} . (s:F(N, N) z:N))")
	at := typ("list('a)")
	more := api.Theory{Classes: []api.Class{{Name: "top", Supers: []string{"ord"}}}, Arities: []api.Arity{{Type: "list", Class: "lin", Sorts: [][]string{{"lin"}}}}, Consts: []api.ConstDecl{decl("more", "list(N)")}, Axioms: []api.Axiom{axiom("more", 0, "?A.0:P")}, Oracles: []string{"more"}}
	moreBefore, atBefore, rhsBefore := fmt.Sprint(more), fmt.Sprint(at), fmt.Sprint(rhs)
	one, e1 := Extend(a, "T", more)
	two, e2 := Define(a, "T", "new", rhs)
	three, e3 := Overload(a, "T", "some", at, of("(two:F(N, list('a)) z:N)"))
	four, e4 := Merge("T", a, one)
	x := of("(s:F(N, N) z:N)")
	five, e5 := Unfolded(a, x)
	for i, e := range []api.Errno{e1, e2, e3, e4, e5} {
		if e != api.OK {
			t.Fatal(i, e)
		}
	}
	oneBefore := fmt.Sprint(one)
	for _, thy := range []api.Theory{two, three, four, Pure()} {
		spoil(thy)
	}
	k, _ := Const(a, "hd")
	k.Args[0].Args[0].Name = "spoilt"
	z, _ := Axiom(a, "z_s")
	z.Prop.Kids[0] = api.Term{}
	five.Kids[0].Type.Args[0].Name = "spoilt"
	if fmt.Sprint(one) != oneBefore {
		t.Error("results share memory")
	}
	spoil(one)
	if fmt.Sprint(a) != before || fmt.Sprint(more) != moreBefore || fmt.Sprint(at) != atBefore || fmt.Sprint(rhs) != rhsBefore || text(x) != text(of("(s:F(N, N) z:N)")) || Check(Pure()) != api.OK {
		t.Error("an argument was changed")
	}
}

// spoil writes into the memory of a theory.
func spoil(t api.Theory) {
	for _, c := range t.Classes {
		for i := range c.Supers {
			c.Supers[i] = "spoilt"
		}
	}
	for _, a := range t.Arities {
		for _, s := range a.Sorts {
			for i := range s {
				s[i] = "spoilt"
			}
		}
	}
	for i := range t.Consts {
		for k := range t.Consts[i].Type.Args {
			t.Consts[i].Type.Args[k].Name = "spoilt"
		}
		t.Consts[i].Name = "spoilt"
	}
	for i := range t.Axioms {
		for k := range t.Axioms[i].Prop.Kids {
			t.Axioms[i].Prop.Kids[k].Op = 9
		}
		t.Axioms[i].Name = "spoilt"
	}
	for i := range t.Classes {
		t.Classes[i].Name = "spoilt"
	}
	for i := range t.Types {
		t.Types[i].Name = "spoilt"
	}
	for i := range t.Arities {
		t.Arities[i].Type = "spoilt"
	}
	for i := range t.Oracles {
		t.Oracles[i] = "spoilt"
	}
}

// common reports whether types have a common instance, their variables apart; sorts play no part.
func common(thy api.Theory, a, b api.Type) bool {
	_, e := types.Unify(thy, withoutSorts(a), types.Raise(withoutSorts(b), 1000))
	return e == api.OK
}

func withoutSorts(t api.Type) api.Type {
	t.Sort = nil
	t.Args = copies(t.Args, withoutSorts)
	return t
}

// naiveFit is what the document says of definitions that fit together, word by word.
func naiveFit(thy api.Theory) bool {
	var lefts, rights []api.Term
	for _, x := range thy.Axioms {
		if x.Kind == api.Defining {
			l, r, _ := term.IsEq(x.Prop)
			lefts, rights = append(lefts, l), append(rights, r)
		}
	}
	leads := make([][]int, len(lefts))
	for i := range lefts {
		for k := range lefts {
			if i != k && lefts[i].Name == lefts[k].Name && common(thy, lefts[i].Type, lefts[k].Type) {
				return false
			}
			for n := range term.Nodes(rights[i]) {
				if n.Op == api.Const && n.Name == lefts[k].Name && common(thy, n.Type, lefts[k].Type) && !exempt(thy, lefts[i], n) {
					leads[i] = append(leads[i], k)
				}
			}
		}
	}
	for i := range leads { // as many steps as there are definitions lead into a circle
		at := []int{i}
		for range leads {
			var next []int
			for _, k := range at {
				next = append(next, leads[k]...)
			}
			slices.Sort(next)
			at = slices.Compact(next)
		}
		if len(at) > 0 {
			return false
		}
	}
	return true
}

// exempt reports whether a use of the constant that is defined is one at an argument of the constructor of a special definition.
func exempt(thy api.Theory, left, use api.Term) bool {
	declared, _ := Const(thy, left.Name)
	if left.Name != use.Name || types.Equal(left.Type, declared) {
		return false
	}
	l, _ := types.Match(thy, declared, left.Type, nil)
	m, _ := types.Match(thy, declared, use.Type, nil)
	return slices.ContainsFunc(l[0].To.Args, func(a api.Type) bool { return types.Equal(a, m[0].To) })
}

func TestP41RandomFit(t *testing.T) {
	fit, not := 0, 0
	for seed := range 4000 {
		g := newGen(seed)
		for i := range 1 + g.Intn(5) {
			at := typ([]string{"nat", "prop", "list('a)", "pair('a, 'b)", "pair('b, 'a)", "fun('a, 'b)", "'a"}[g.Intn(7)])
			c := []string{"some", "op", "hd"}[g.Intn(3)]
			declared, _ := Const(g.thy, c)
			k := types.Apply([]api.TypeBind{{Name: "a", To: at}}, declared)
			g.thy.Axioms = append(g.thy.Axioms, defining(fmt.Sprint("d", i), c, k, g.term(k, 3)))
		}
		want := api.OK
		if !naiveFit(g.thy) {
			want = ErrDefine
			not++
		} else {
			fit++
		}
		if e := Check(g.thy); e != want {
			var s []string
			for _, x := range g.thy.Axioms[2:] {
				s = append(s, text(x.Prop))
			}
			t.Fatal(seed, e, want, strings.Join(s, "\n"))
		}
	}
	if fit < 500 || not < 500 {
		t.Error(fit, not)
	}
}
