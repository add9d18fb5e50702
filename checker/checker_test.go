package checker

import (
	"fmt"
	"math"
	"math/rand"
	"reflect"
	"slices"
	"strings"
	"testing"

	"triforium/api"
	"triforium/kernel"
	"triforium/proof"
	"triforium/term"
	"triforium/theory"
	"triforium/types"
)

// full writes out abbreviations: N stands for nat, P for prop, and F(..) for the type of functions.
func full(s string) string {
	return strings.NewReplacer("N", "nat", "P", "prop", "F(", "fun(").Replace(s)
}

func typ(s string) api.Type {
	t, e := types.Read(full(s))
	if e != api.OK {
		panic("no type: " + s)
	}
	return t
}

func of(s string) api.Term {
	t, e := term.Read(full(s))
	if e != api.OK {
		panic(fmt.Sprint("no term: ", s, " ", e))
	}
	return t
}

// by reads a proof.
func by(s string) api.Proof {
	p, e := proof.Read(full(s))
	if e != api.OK {
		panic(fmt.Sprint("no proof: ", s, " ", e))
	}
	return p
}

func imp(a, b string) string { return "((imp:F(P, F(P, P)) " + a + ") " + b + ")" }

func eq(t, a, b string) string { return fmt.Sprintf("((eq:F(%s, F(%s, P)) %s) %s)", t, t, a, b) }

func forall(t, body string) string {
	return fmt.Sprintf("(all:F(F(%s, P), P) (\\x:%s . %s))", t, t, body)
}

func text(t api.Term) string {
	s, e := term.Text(t)
	if e != api.OK {
		return fmt.Sprint("error ", e)
	}
	return s
}

func state(s Sequent) string {
	var l []string
	for _, h := range s.Hyps {
		l = append(l, text(h))
	}
	return strings.Join(l, "; ") + " |- " + text(s.Prop) + " " + strings.Join(s.Oracles, ",")
}

// small is Pure with classes, type constructors, constants, axioms and oracles.
func small() api.Theory {
	t := theory.Pure()
	t.Name = "Small"
	t.Classes = []api.Class{{Name: "ord"}, {Name: "lin", Supers: []string{"ord"}}, {Name: "c"}}
	t.Types = append(t.Types, api.TypeDecl{Name: "nat"}, api.TypeDecl{Name: "list", Arity: 1}, api.TypeDecl{Name: "pair", Arity: 2})
	t.Arities = []api.Arity{{Type: "nat", Class: "ord"}, {Type: "nat", Class: "lin"}, {Type: "list", Class: "ord", Sorts: [][]string{{"ord"}}}, {Type: "list", Class: "c", Sorts: [][]string{{"c"}}}}
	for _, c := range []string{"z N", "s F(N, N)", "some ?a.0", "both F(?a.0, F(?b.0, P))", "least ?a.0{ord}", "same F(?a.0, F(?a.0, P))"} {
		name, k, _ := strings.Cut(c, " ")
		t.Consts = append(t.Consts, api.ConstDecl{Name: name, Type: typ(k)})
	}
	t.Axioms = append(t.Axioms,
		api.Axiom{Name: "z_s", Prop: of(eq("N", "z:N", "(s:F(N, N) z:N)"))},
		api.Axiom{Name: "both", Prop: of("((both:F(?a.0{ord}, F(?b.0, P)) ?x.0:?a.0{ord}) ?y.0:?b.0)")})
	t.Oracles = []string{"believe", "trust"}
	return t
}

// Each proof of the table proves what stands beside it.
func TestP71Proves(t *testing.T) {
	a := "(assume [$A:P])"
	ab, ba := "(assume ["+imp("$A:P", "$B:P")+"])", "(assume ["+imp("$B:P", "$A:P")+"])"
	xx := eq("N", "$x:N", "$x:N")
	for i, c := range []struct {
		p, want string
	}{
		{"(axiom z_s)", " |- " + eq("N", "z:N", "(s:F(N, N) z:N)") + " "},
		{"(oracle trust [$A:P])", " |- $A:P trust"},
		{a, "$A:P |- $A:P "},
		{"(impI [$A:P] " + a + ")", " |- " + imp("$A:P", "$A:P") + " "},
		{"(impI [$B:P] " + a + ")", "$A:P |- " + imp("$B:P", "$A:P") + " "},
		{"(impE " + ab + " " + a + ")", "$A:P; " + imp("$A:P", "$B:P") + " |- $B:P "},
		{"(impE (oracle trust [" + imp("$A:P", "$B:P") + "]) (oracle believe [$A:P]))", " |- $B:P believe,trust"},
		{"(impE (oracle trust [" + imp("$A:P", "$B:P") + "]) (oracle trust [$A:P]))", " |- $B:P trust"},
		{"(allI [$x:N] (refl [$x:N]))", " |- " + forall("N", eq("N", "#0", "#0")) + " "},
		{"(allE [z:N] (assume [" + forall("N", eq("N", "#0", "#0")) + "]))", forall("N", eq("N", "#0", "#0")) + " |- " + eq("N", "z:N", "z:N") + " "},
		{"(refl [$x:N])", " |- " + xx + " "},
		{"(sym (axiom z_s))", " |- " + eq("N", "(s:F(N, N) z:N)", "z:N") + " "},
		{"(trans (axiom z_s) (sym (axiom z_s)))", " |- " + eq("N", "z:N", "z:N") + " "},
		{"(comb (refl [s:F(N, N)]) (axiom z_s))", " |- " + eq("N", "(s:F(N, N) z:N)", "(s:F(N, N) (s:F(N, N) z:N))") + " "},
		{"(abs [$x:N] (refl [(s:F(N, N) $x:N)]))", " |- " + eq("F(N, N)", "(\\x:N . (s:F(N, N) #0))", "(\\x:N . (s:F(N, N) #0))") + " "},
		{"(beta [((\\y:N . (\\u:P . #1)) z:N)])", " |- " + eq("F(P, N)", "((\\y:N . (\\u:P . #1)) z:N)", "(\\u:P . z:N)") + " "},
		{"(eta [(\\y:N . ($f:F(N, P) #0))])", " |- " + eq("F(N, P)", "(\\y:N . ($f:F(N, P) #0))", "$f:F(N, P)") + " "},
		{"(eqI " + ab + " " + ba + ")", imp("$A:P", "$B:P") + "; " + imp("$B:P", "$A:P") + " |- " + eq("P", "$A:P", "$B:P") + " "},
		{"(eqE (assume [" + eq("P", "$A:P", "$B:P") + "]) " + a + ")", "$A:P; " + eq("P", "$A:P", "$B:P") + " |- $B:P "},
		{"(inst <a.0=[N] b.0=['q] | x.0=[z:N] w.9=[$w:P]> (axiom both))", " |- ((both:F(N, F('q, P)) z:N) ?y.0:'q) "},
		{"(inst < | A.0=[$X:P] B.0=[$X:P]> (impE (assume [" + imp("?A.0:P", "?B.0:P") + "]) (assume [?A.0:P])))", "$X:P; " + imp("$X:P", "$X:P") + " |- $X:P "},
		{"(inst < | B.0=[?A.0:P]> (impE (assume [" + imp("?A.0:P", "?B.0:P") + "]) (assume [?A.0:P])))", "?A.0:P; " + imp("?A.0:P", "?A.0:P") + " |- ?A.0:P "},
		{"(gen 2 <q a | x> (refl [(some:F('a{ord}, N) $x:'a{ord})]))", " |- " + eq("N", "(some:F(?a.2{ord}, N) ?x.2:?a.2{ord})", "(some:F(?a.2{ord}, N) ?x.2:?a.2{ord})") + " "},
	} {
		s, e := Check(small(), by(c.p))
		if e != api.OK || state(s) != full(c.want) {
			t.Error(i, state(s), e)
		}
	}
}

// Of these none proves anything.
func TestP71Nothing(t *testing.T) {
	a, ab := "(assume [$A:P])", "(assume ["+imp("$A:P", "$B:P")+"])"
	for i, s := range []string{
		"(axiom none)", "(oracle none [$A:P])", "(oracle trust [$x:N])", "(oracle trust [k:P])", "(assume [$x:N])", "(assume [z:P])", "(assume [$x:'a{lin,ord}])", "(assume [$x:set])", "(assume [($A:P $A:P)])",
		"(impI [$x:N] " + a + ")", "(impI [" + eq("N", "$A:N", "$A:N") + "] " + a + ")", "(impE " + a + " " + a + ")", "(impE " + ab + " (assume [$B:P]))", "(impE " + ab + " (refl [$A:N]))",
		"(allI [$x:N] (assume [" + eq("N", "$x:N", "z:N") + "]))", "(allI [z:N] " + a + ")", "(allI [?x.0:N] " + a + ")", "(allI [$A:N] (oracle trust [$A:P]))", "(allI [$x:N] (assume [" + forall("N", eq("N", "#0", "$x:N")) + "]))",
		"(allE [z:N] " + a + ")", "(allE [$A:P] (allI [$x:N] (refl [$x:N])))", "(allE [z:N] (assume [(all:F(F(N, P), P) $p:F(N, P))]))",
		"(refl [k:N])", "(sym " + a + ")", "(trans (axiom z_s) (axiom z_s))", "(trans (axiom z_s) " + a + ")", "(trans " + a + " (axiom z_s))", "(trans (refl [$x:'a]) (refl [$x:'b]))", "(trans (refl [$x:'a]) (refl [$y:'a{ord}]))",
		"(comb (axiom z_s) (axiom z_s))", "(comb (refl [s:F(N, N)]) (refl [$A:P]))", "(comb (refl [s:F(N, N)]) " + a + ")", "(comb " + a + " (refl [z:N]))",
		"(abs [$x:N] " + a + ")", "(abs [z:N] (axiom z_s))", "(abs [$x:N] (assume [" + eq("N", "$x:N", "z:N") + "]))",
		"(beta [z:N])", "(beta [(s:F(N, N) z:N)])", "(eta [z:N])", "(eta [(\\x:N . #0)])", "(eta [(\\x:N . (($f:F(N, F(N, P)) #0) #0))])", "(eta [(\\x:N . (s:F(N, N) z:N))])",
		"(eqI " + ab + " " + ab + ")", "(eqI " + a + " " + ab + ")", "(eqE " + ab + " " + a + ")", "(eqE (assume [" + eq("P", "$A:P", "$B:P") + "]) (assume [$B:P]))", "(eqE (axiom z_s) " + a + ")",
		"(inst <a.0=[P] | > (axiom both))", "(inst <a.0=['b{c}] | > (axiom both))", "(inst <a.0=[list(list(P))] | > (axiom both))", "(inst <a.0=[set] | > (axiom z_s))", "(inst <a.0=[N] a.0=[N] | > (axiom both))", "(inst <a.0=[pair(?b.0, ?b.0{ord})] | > (axiom z_s))",
		"(inst < | x.0=[z:N]> (axiom both))", "(inst < | y.0=[k:N]> (axiom z_s))", "(inst < | y.0=[z:N] y.0=[z:N]> (axiom z_s))", "(inst <b.0=[N] | y.0=[some:?b.0]> (axiom both))", "(inst <b.0=[?a.0] | > (axiom both))", "(inst <b.0=[?c.0] | y.0=[(some:F(?a.0, ?c.0) some:?a.0)]> (axiom both))",
		"(inst <b.0=[N] | y.0=[(s:F(N, N) ?x.0:N)]> (axiom both))",
		"(gen 0 <a a | > (axiom z_s))", "(gen 0 < | x x> (axiom z_s))", "(gen 0 <a | > (axiom both))", "(gen 0 < | x> (axiom both))", "(gen 1000001 < | > (axiom z_s))", "(gen 0 < | A> " + a + ")", "(gen 0 <a | > (assume [((same:F('a, F('a, P)) $x:'a) $y:'a)]))",
		"(gen 0 < | A> (assume [" + imp("$B:P", "?A.0:P") + "]))", "(gen 0 < | y> (oracle trust [" + eq("N", "$y:N", "?y.0:N") + "]))",
		"(refl [least:P])", "(refl [least:list(P)])", "(refl [least:'a])", "(refl [least:'a{c}])", "(assume [((same:F(N, F(P, P)) z:N) $A:P)])",
	} {
		x, e := Check(small(), by(s))
		if e != ErrProof || !reflect.ValueOf(x).IsZero() {
			t.Error(i, s, state(x), e)
		}
	}
	for i, s := range []string{"(refl [least:N])", "(refl [least:list(list(N))])", "(refl [least:'a{lin}])", "(refl [least:'a{c,ord}])", "(gen 1 <a | x> (axiom both))", "(gen 1000000 < | A> (oracle trust [$A:P]))"} {
		if _, e := Check(small(), by(s)); e != api.OK {
			t.Error(i, s, e)
		}
	}
}

// What is not of the right form proves nothing, nor what has another number of Kids; fields that a kind does not take play no part.
func TestP71Form(t *testing.T) {
	right := []api.Proof{
		by("(axiom z_s)"), by("(oracle trust [$A:P])"), by("(assume [$A:P])"), by("(impI [$A:P] (assume [$A:P]))"), by("(impE (assume [" + imp("$A:P", "$B:P") + "]) (assume [$A:P]))"), by("(allI [$x:N] (axiom z_s))"),
		by("(allE [z:N] (allI [$x:N] (axiom z_s)))"), by("(refl [z:N])"), by("(sym (axiom z_s))"), by("(trans (axiom z_s) (sym (axiom z_s)))"), by("(comb (refl [s:F(N, N)]) (axiom z_s))"), by("(abs [$x:N] (axiom z_s))"),
		by("(beta [((\\x:N . #0) z:N)])"), by("(eta [(\\x:N . (s:F(N, N) #0))])"), by("(eqI (impI [$A:P] (assume [$A:P])) (impI [$A:P] (assume [$A:P])))"), by("(eqE (refl [$A:P]) (assume [$A:P]))"), by("(inst < | > (axiom z_s))"), by("(gen 0 < | > (axiom z_s))"),
	}
	for i, p := range right {
		if p.Op != i+1 {
			t.Fatal(i)
		}
		before, e := Check(small(), p)
		if e != api.OK {
			t.Fatal(i, e)
		}
		q := api.Proof{Op: p.Op, Name: "none", Term: api.Term{Op: 77}, Inst: api.Inst{Types: []api.TypeBind{{}, {}}}, TypeNames: []string{"", ""}, TermNames: make([]string, 101), Num: -1, Kids: p.Kids}
		switch p.Op {
		case api.ByAxiom:
			q.Name = p.Name
		case api.ByOracle:
			q.Name, q.Term = p.Name, p.Term
		case api.Instantiate:
			q.Inst = p.Inst
		case api.Generalize:
			q.TypeNames, q.TermNames, q.Num = nil, nil, 0
		default:
			q.Term = p.Term
		}
		if after, e := Check(small(), q); e != api.OK || !Same(before, after) {
			t.Error(i, e)
		}
		q = p
		q.Kids = append(slices.Clone(p.Kids), right[0])
		if _, e := Check(small(), q); e != ErrProof {
			t.Error(i, "more Kids", e)
		}
		if len(p.Kids) > 0 {
			q.Kids = p.Kids[:len(p.Kids)-1]
			if _, e := Check(small(), q); e != ErrProof {
				t.Error(i, "less Kids", e)
			}
		}
		q = p
		q.Op = 1 + (p.Op+17)%19 // the kind ahead of it, or none
		Check(small(), q)
	}
	for _, op := range []int{0, -1, 19, 20, math.MinInt, math.MaxInt} {
		for n := range 3 {
			if _, e := Check(small(), api.Proof{Op: op, Term: of("$A:P"), Kids: right[:n]}); e != ErrProof {
				t.Error(op, n, e)
			}
		}
	}
	if _, e := Check(small(), by("(impE (axiom z_s) (axiom z_s))").Kids[0]); e != api.OK {
		t.Error(e)
	}
	if _, e := Check(small(), api.Proof{Op: api.ImpElim, Kids: []api.Proof{right[3]}}); e != ErrProof {
		t.Error("ImpElim with one Kid", e)
	}
}

func TestP71Terms(t *testing.T) {
	k, nat := typ("N"), of("z:N")
	free := func(change func(*api.Term)) api.Term {
		x := api.Term{Op: api.Free, Name: "x", Type: typ("N")}
		change(&x)
		return x
	}
	ofType := func(k api.Type) api.Term { return free(func(x *api.Term) { x.Type = k }) }
	abs := func(body api.Term) api.Term {
		return api.Term{Op: api.Abs, Name: "x", Type: k, Kids: []api.Term{body}}
	}
	app := func(l ...api.Term) api.Term { return api.Term{Op: api.App, Kids: l} }
	bound := func(n int) api.Term { return api.Term{Op: api.Bound, Num: n} }
	classes := func(l ...string) api.Term {
		return ofType(api.Type{Op: api.TFree, Name: "a", Sort: l})
	}
	for i, c := range []struct {
		t  api.Term
		ok bool
	}{
		{free(func(x *api.Term) {}), true}, {free(func(x *api.Term) { x.Num = 1 }), false}, {free(func(x *api.Term) { x.Kids = []api.Term{nat} }), false}, {free(func(x *api.Term) { x.Name = "" }), false}, {free(func(x *api.Term) { x.Name = "1" }), false},
		{free(func(x *api.Term) { x.Name = "x y" }), false}, {free(func(x *api.Term) { x.Name = strings.Repeat("a", 41) }), false}, {free(func(x *api.Term) { x.Name = strings.Repeat("a", 40) }), true}, {free(func(x *api.Term) { x.Name = "a.'0_Z" }), true}, {free(func(x *api.Term) { x.Name = "é" }), false},
		{free(func(x *api.Term) { x.Op = 0 }), false}, {free(func(x *api.Term) { x.Op = 7 }), false}, {free(func(x *api.Term) { x.Op = -1 }), false}, {free(func(x *api.Term) { x.Op, x.Num = api.Var, 1000000 }), true}, {free(func(x *api.Term) { x.Op, x.Num = api.Var, 1000001 }), false}, {free(func(x *api.Term) { x.Op, x.Num = api.Var, -1 }), false},
		{free(func(x *api.Term) { x.Op, x.Name, x.Num = api.Const, "z", 1 }), false}, {free(func(x *api.Term) { x.Op, x.Name = api.Const, "z" }), true},
		{bound(0), false}, {abs(bound(0)), true}, {abs(bound(1)), false}, {abs(bound(-1)), false}, {abs(api.Term{Op: api.Bound, Name: "x"}), false}, {abs(api.Term{Op: api.Bound, Type: k}), false}, {abs(api.Term{Op: api.Bound, Kids: []api.Term{nat}}), false}, {abs(abs(bound(1))), true}, {abs(abs(bound(2))), false},
		{api.Term{Op: api.Abs, Type: k, Kids: []api.Term{nat}}, true}, {api.Term{Op: api.Abs, Name: "1", Type: k, Kids: []api.Term{nat}}, false}, {api.Term{Op: api.Abs, Type: k}, false}, {api.Term{Op: api.Abs, Type: k, Kids: []api.Term{nat, nat}}, false}, {api.Term{Op: api.Abs, Num: 1, Type: k, Kids: []api.Term{nat}}, false}, {api.Term{Op: api.Abs, Kids: []api.Term{nat}}, false},
		{app(of("s:F(N, N)"), nat), true}, {app(nat, nat), false}, {app(of("s:F(N, N)"), of("s:F(N, N)")), false}, {app(of("s:F(N, N)")), false}, {app(), false}, {app(of("s:F(N, N)"), nat, nat), false}, {api.Term{Op: api.App, Name: "x", Kids: []api.Term{of("s:F(N, N)"), nat}}, false}, {api.Term{Op: api.App, Num: 1, Kids: []api.Term{of("s:F(N, N)"), nat}}, false}, {api.Term{Op: api.App, Type: k, Kids: []api.Term{of("s:F(N, N)"), nat}}, false},
		{app(abs(bound(0)), bound(0)), false}, {abs(app(abs(bound(1)), bound(0))), true}, {abs(app(abs(bound(2)), bound(0))), false},
		{app(app(of("same:F(N, F(N, P))"), of("$y:N")), of("$y:N")), true}, {app(app(of("both:F(N, F(P, P))"), of("$y:N")), of("$y:P")), false}, {app(app(of("both:F(N, F(P, P))"), of("?y.0:N")), of("?y.1:P")), true}, {app(app(of("both:F('a, F('a{ord}, P))"), of("$y:'a")), of("$u:'a{ord}")), false},
		{app(app(of("both:F(?a.0, F(?a.1{ord}, P))"), of("$y:?a.0")), of("$u:?a.1{ord}")), true}, {of("some:pair('a, 'a{ord})"), false},
		{ofType(api.Type{}), false}, {ofType(api.Type{Op: 4, Name: "nat"}), false}, {ofType(api.Type{Op: api.TCon, Name: "nat", Index: 1}), false}, {ofType(api.Type{Op: api.TCon, Name: "nat", Sort: []string{"ord"}}), false}, {ofType(api.Type{Op: api.TCon, Name: "nat", Args: []api.Type{k}}), false}, {ofType(typ("list(N, N)")), false}, {ofType(typ("F(N)")), false},
		{ofType(api.Type{Op: api.TFree, Name: "a", Index: 1}), false}, {ofType(api.Type{Op: api.TFree, Name: "a", Args: []api.Type{k}}), false}, {ofType(api.Type{Op: api.TFree}), false}, {ofType(api.Type{Op: api.TVar, Name: "a", Index: 1000000}), true}, {ofType(api.Type{Op: api.TVar, Name: "a", Index: 1000001}), false}, {ofType(api.Type{Op: api.TVar, Name: "a", Index: -1}), false}, {ofType(api.Type{Op: api.TVar, Name: "1"}), false}, {ofType(api.Type{Op: api.TVar, Name: "a", Args: []api.Type{k}}), false},
		{classes("ord"), true}, {classes("c", "ord"), true}, {classes("ord", "c"), false}, {classes("ord", "ord"), false}, {classes("d"), false}, {classes("lin", "ord"), false}, {classes("c", "lin"), true}, {classes(slices.Repeat([]string{"ord"}, 21)...), false},
		{of("some:F(N, P)"), true}, {of("s:F(N, P)"), false}, {of("same:F(N, F(P, P))"), false}, {of("nothing:N"), false},
	} {
		_, e := Check(small(), api.Proof{Op: api.Reflexive, Term: c.t})
		if (e == api.OK) != c.ok || e != api.OK && e != ErrProof {
			t.Error(i, text(c.t), e)
		}
		if _, e := term.Check(small(), c.t); (e == api.OK) != c.ok {
			t.Error(i, "term.Check", e)
		}
	}
}

// nest returns a proof with n nodes within each other, double one with 2 to the power of n, less 1, nodes.
func nest(n int) api.Proof {
	p := by("(axiom z_s)")
	for range n - 1 {
		p = api.Proof{Op: api.Symmetric, Kids: []api.Proof{p}}
	}
	return p
}

func double(n int) api.Proof {
	p := by("(refl [z:N])")
	for range n - 1 {
		p = api.Proof{Op: api.Transitive, Kids: []api.Proof{p, p}}
	}
	return p
}

func TestP71Large(t *testing.T) {
	bad := small()
	bad.Name = ""
	for i, c := range []struct {
		thy api.Theory
		p   api.Proof
		e   api.Errno
	}{
		{small(), nest(30000), api.OK}, {small(), nest(30001), api.ErrLarge}, {bad, nest(30001), api.ErrLarge}, {bad, nest(3), api.ErrTheory}, {api.Theory{}, api.Proof{}, api.ErrTheory}, {bad, api.Proof{}, api.ErrTheory},
		{small(), double(18), api.OK}, {small(), double(21), api.ErrLarge}, {small(), double(62), api.ErrLarge}, {bad, double(21), api.ErrLarge},
		{small(), api.Proof{Kids: []api.Proof{double(20), double(20)}}, api.ErrLarge}, {small(), api.Proof{Kids: []api.Proof{double(20), double(18)}}, ErrProof},
	} {
		s, e := Check(c.thy, c.p)
		if e != c.e || e != api.OK && !reflect.ValueOf(s).IsZero() {
			t.Error(i, e, c.e)
		}
	}
}

// The results may be as large as those of the kernel, and no larger.
func TestP71LargeResults(t *testing.T) {
	wide := func(n int) api.Term { // n leaves
		x := of("z:N")
		l := []api.Term{x}
		for len(l) < n {
			l = append(l, x)
		}
		for len(l) > 1 {
			var next []api.Term
			for i := 0; i+1 < len(l); i += 2 {
				f := api.Term{Op: api.App, Kids: []api.Term{of("some:F(N, F(N, N))"), l[i]}}
				next = append(next, api.Term{Op: api.App, Kids: []api.Term{f, l[i+1]}})
			}
			if len(l)%2 == 1 {
				next = append(next, l[len(l)-1])
			}
			l = next
		}
		return l[0]
	}
	for i, p := range []api.Proof{
		{Op: api.Reflexive, Term: wide(2499)}, {Op: api.Reflexive, Term: wide(2501)},
		{Op: api.Beta, Term: api.Term{Op: api.App, Kids: []api.Term{{Op: api.Abs, Type: typ("N"), Kids: []api.Term{of("z:N")}}, wide(4000)}}},
		{Op: api.Beta, Term: api.Term{Op: api.App, Kids: []api.Term{of("(\\x:N . ((some:F(N, F(N, N)) #0) #0))"), wide(3000)}}},
		{Op: api.AllElim, Term: wide(2499), Kids: []api.Proof{by("(allI [$x:N] (refl [$x:N]))")}}, {Op: api.AllElim, Term: wide(2501), Kids: []api.Proof{by("(allI [$x:N] (refl [$x:N]))")}},
		{Op: api.Instantiate, Inst: api.Inst{Terms: []api.TermBind{{Name: "x", To: wide(2499)}}}, Kids: []api.Proof{by("(refl [?x.0:N])")}},
		{Op: api.Instantiate, Inst: api.Inst{Terms: []api.TermBind{{Name: "x", To: wide(2501)}}}, Kids: []api.Proof{by("(refl [?x.0:N])")}},
	} {
		_, e := Check(small(), p)
		var e2 api.Errno
		switch p.Op {
		case api.Reflexive:
			_, e2 = kernel.Reflexive(small(), p.Term)
		case api.Beta:
			_, e2 = kernel.Beta(small(), p.Term)
		case api.AllElim:
			x, _ := kernel.Reflexive(small(), of("$x:N"))
			x, _ = kernel.AllIntro(of("$x:N"), x)
			_, e2 = kernel.AllElim(p.Term, x)
		case api.Instantiate:
			x, _ := kernel.Reflexive(small(), of("?x.0:N"))
			_, e2 = kernel.Instantiate(p.Inst, x)
		}
		if (e == api.OK) != (e2 == api.OK) || e2 != api.OK && e2 != api.ErrLarge {
			t.Error(i, e, e2)
		}
	}
	// hypotheses
	p := by("(axiom z_s)")
	for i := range api.MaxHyps {
		a := of(fmt.Sprintf("$h%d:P", i))
		p = api.Proof{Op: api.ImpElim, Kids: []api.Proof{{Op: api.ImpIntro, Term: a, Kids: []api.Proof{p}}, {Op: api.Assume, Term: a}}}
	}
	if s, e := Check(small(), p); e != api.OK || len(s.Hyps) != api.MaxHyps {
		t.Error(len(s.Hyps), e)
	}
	p = api.Proof{Op: api.ImpElim, Kids: []api.Proof{{Op: api.ImpIntro, Term: of("$A:P"), Kids: []api.Proof{p}}, by("(assume [$A:P])")}}
	if _, e := Check(small(), p); e != ErrProof {
		t.Error(e)
	}
}

func TestP71AxiomsAndSame(t *testing.T) {
	p := api.Proof{Op: 55, Name: "no", Kids: []api.Proof{{Op: api.ByAxiom, Name: "b", Kids: []api.Proof{{Op: api.ByAxiom, Name: "a"}}}, {Op: api.ByAxiom, Name: "\xff"}, {Op: api.ByAxiom, Name: "b"}, {Op: api.ByAxiom}, {Op: api.ByOracle, Name: "o"}}}
	if l := Axioms(p); strings.Join(l, ",") != ",a,b,\xff" {
		t.Error(l)
	}
	if l := Axioms(nest(1 << 16)); strings.Join(l, ",") != "z_s" {
		t.Error(l)
	}
	if l := Axioms(api.Proof{}); len(l) != 0 {
		t.Error(l)
	}
	any := api.Term{Op: 9, Num: -4, Name: "\xff", Type: api.Type{Op: -1, Sort: []string{"b", "a"}, Args: []api.Type{{}}}, Kids: []api.Term{{}, {Op: api.Abs, Name: "x"}}}
	a := Sequent{Hyps: []api.Term{of("$A:P"), any}, Prop: any, Oracles: []string{"b", "a"}}
	for i, change := range []func(*Sequent){
		func(s *Sequent) { s.Hyps = s.Hyps[:1] }, func(s *Sequent) { s.Hyps = append(s.Hyps, api.Term{}) }, func(s *Sequent) { s.Hyps = []api.Term{any, of("$A:P")} }, func(s *Sequent) { s.Prop.Num = 4 }, func(s *Sequent) { s.Prop.Op = 8 },
		func(s *Sequent) { s.Prop.Name = "" }, func(s *Sequent) { s.Prop.Type.Index = 1 }, func(s *Sequent) { s.Prop.Type.Op = 0 }, func(s *Sequent) { s.Prop.Type.Name = "q" }, func(s *Sequent) { s.Prop.Type.Sort = []string{"a", "b"} }, func(s *Sequent) { s.Prop.Type.Sort = nil }, func(s *Sequent) { s.Prop.Type.Args = nil }, func(s *Sequent) { s.Prop.Type.Args = []api.Type{{Op: 1}} },
		func(s *Sequent) { s.Prop.Kids = s.Prop.Kids[:1] }, func(s *Sequent) { s.Prop.Kids = []api.Term{{}, {Op: api.Abs, Num: 1}} }, func(s *Sequent) { s.Prop.Kids = []api.Term{{}, {Op: api.App, Name: "x"}} }, func(s *Sequent) { s.Oracles = []string{"a", "b"} }, func(s *Sequent) { s.Oracles = nil },
	} {
		b := a
		change(&b)
		if Same(a, b) || Same(b, a) || !Same(b, b) {
			t.Error(i)
		}
	}
	b := a
	b.Prop.Kids = []api.Term{{Kids: []api.Term{}}, {Op: api.Abs, Name: "y"}}
	if !Same(a, b) || !Same(Sequent{}, Sequent{Hyps: []api.Term{}, Oracles: []string{}}) {
		t.Error("the names of abstractions, empty lists")
	}
}

// Same is equality of lists by term.Equal.
func TestP71RandomSame(t *testing.T) {
	equal := 0
	for seed := range 20000 {
		r := rand.New(rand.NewSource(int64(seed)))
		var any func(depth int) api.Term
		any = func(depth int) api.Term {
			x := api.Term{Op: 4 + r.Intn(3), Name: []string{"", "a"}[r.Intn(2)], Num: r.Intn(2)}
			if r.Intn(3) == 0 {
				x.Type = api.Type{Op: r.Intn(2), Sort: []string{"a", "b"}[:r.Intn(2)]}
			}
			for range r.Intn(3) {
				if depth > 0 {
					x.Kids = append(x.Kids, any(depth-1))
				}
			}
			return x
		}
		a, b := any(1), any(1)
		same := Same(Sequent{Hyps: []api.Term{a}, Prop: b}, Sequent{Hyps: []api.Term{b}, Prop: a})
		if same != term.Equal(a, b) || compareTerms(&a, &b) != term.Compare(a, b) {
			t.Fatal(seed)
		}
		if same {
			equal++
		}
	}
	if equal < 50 {
		t.Error("hardly tried", equal)
	}
}

// P7.5: what Check returned, and what it was given, can be changed.
func TestP75Own(t *testing.T) {
	p := by("(impE (oracle trust [" + imp(forall("list('a{ord})", "$A:P"), forall("list('a{ord})", "$A:P")) + "]) (assume [" + forall("list('a{ord})", "$A:P") + "]))")
	thy := small()
	before, e := Check(thy, p)
	s := state(before)
	if e != api.OK {
		t.Fatal(e)
	}
	spoil(&before.Hyps[0])
	if text(before.Prop) != text(of(forall("list('a{ord})", "$A:P"))) {
		t.Error("hypotheses and propositions share memory")
	}
	spoil(&before.Prop)
	before.Oracles[0] = "spoilt"
	ax, _ := Check(thy, by("(axiom z_s)"))
	spoil(&ax.Prop)
	after, e := Check(thy, p)
	if e != api.OK || state(after) != s {
		t.Error(state(after), e)
	}
	if x, e := Check(thy, by("(axiom z_s)")); e != api.OK || text(x.Prop) != full(eq("N", "z:N", "(s:F(N, N) z:N)")) {
		t.Error(e)
	}
	r, _ := Check(thy, by("(refl [(s:F(N, N) z:N)])"))
	spoil(&r.Prop.Kids[1])
	if text(r.Prop.Kids[0].Kids[1]) != full("(s:F(N, N) z:N)") {
		t.Error("sides share memory")
	}
	spoil(&p.Kids[1].Term)
	if state(after) != s {
		t.Error("a result shares memory with the proof")
	}
}

func spoil(t *api.Term) {
	spoilType(&t.Type)
	for i := range t.Kids {
		spoil(&t.Kids[i])
	}
	t.Op, t.Name = 99, "spoilt"
}

func spoilType(t *api.Type) {
	for i := range t.Sort {
		t.Sort[i] = "spoilt"
	}
	for i := range t.Args {
		spoilType(&t.Args[i])
	}
	t.Op, t.Name = 99, "spoilt"
}
