package kernel

import (
	"fmt"
	"testing"

	"triforium/api"
	"triforium/checker"
	"triforium/theory"
)

// agree checks that the checker takes the proof of a step just if the kernel makes the theorem, which has to be as a code says.
func agree(t *testing.T, name string, thy api.Theory, want api.Errno, s Step, from ...Theorem) {
	t.Helper()
	th, e := apply(s, opening(thy), from...)
	p := api.Proof{Op: s.Rule, Name: s.Name, Term: s.Term, Inst: s.Inst, TypeNames: s.TypeNames, TermNames: s.TermNames, Num: s.Num}
	for _, f := range from {
		p.Kids = append(p.Kids, f.s.proof)
	}
	x, e2 := checker.Check(thy, p)
	if e != want || (e == api.OK) != (e2 == api.OK) {
		t.Error(name, e, want, e2)
	} else if e == api.OK && !checker.Same(x, sequentOf(th)) {
		t.Error(name, state(th))
	}
}

// absDeep returns a term with n nodes within each other, of which the innermost one is another term.
func absDeep(n int, t api.Term) api.Term {
	for range n - 1 {
		t = api.Term{Op: api.Abs, Type: typ("N"), Kids: []api.Term{t}}
	}
	return t
}

// P7.1: at the limits of terms and types.
func TestP71Limits(t *testing.T) {
	thy := small()
	b, _ := On(thy)
	a := ok(b.Assume(of("$A:P")))
	for _, c := range []struct {
		n int
		e api.Errno
	}{{498, api.OK}, {499, api.ErrLarge}, {500, api.ErrLarge}, {501, api.ErrDepth}} {
		agree(t, fmt.Sprint("deep ", c.n), thy, c.e, Step{Rule: api.Reflexive, Term: numeral(c.n)})
		agree(t, fmt.Sprint("deep abstractions ", c.n), thy, c.e, Step{Rule: api.Reflexive, Term: absDeep(c.n, of("z:N"))})
		agree(t, fmt.Sprint("deep type ", c.n), thy, c.e, Step{Rule: api.Reflexive, Term: api.Term{Op: api.Free, Name: "x", Type: list(c.n)}})
		agree(t, fmt.Sprint("deep type of a Free ", c.n), thy, c.e, Step{Rule: api.AllIntro, Term: api.Term{Op: api.Free, Name: "x", Type: list(c.n)}}, a)
	}
	// as deep as a proposition may be: imp, applied to the premise, is one node deeper
	for n, e := range map[int]api.Errno{500: api.OK, 501: api.ErrDepth} {
		prop := of(eq("N", "z:N", "z:N"))
		prop.Kids[1] = numeral(n - 1)
		agree(t, fmt.Sprint("Assume ", n), thy, e, Step{Rule: api.Assume, Term: prop})
		if n == 500 {
			x := ok(b.Assume(prop))
			agree(t, "ImpIntro", thy, api.ErrLarge, Step{Rule: api.ImpIntro, Term: of("$A:P")}, x)
			agree(t, "ImpIntro of", thy, api.ErrLarge, Step{Rule: api.ImpIntro, Term: prop}, a)
			agree(t, "ImpElim", thy, api.ErrFail, Step{Rule: api.ImpElim}, x, x)
		}
	}
	for n, e := range map[int]api.Errno{497: api.OK, 498: api.ErrLarge, 496: api.OK} {
		half := of(eq("N", "z:N", "z:N"))
		half.Kids[1] = numeral(n)
		agree(t, fmt.Sprint("ImpIntro ", n), thy, e, Step{Rule: api.ImpIntro, Term: half}, a)
	}
	refl := ok(b.Reflexive(of("?x.0:N")))
	gone := ok(AllIntro(of("$x:N"), ok(b.Reflexive(of("(s:F(N, N) $x:N)")))))
	for _, c := range []struct {
		n int
		e api.Errno
	}{{497, api.OK}, {498, api.ErrLarge}} {
		agree(t, fmt.Sprint("AllElim ", c.n), thy, c.e, Step{Rule: api.AllElim, Term: numeral(c.n)}, gone)
		redex := app(of("(\\x:N . (s:F(N, N) #0))"), numeral(c.n))
		agree(t, fmt.Sprint("Beta ", c.n), thy, c.e, Step{Rule: api.Beta, Term: redex})
	}
	for _, c := range []struct {
		n int
		e api.Errno
	}{{498, api.OK}, {499, api.ErrLarge}} {
		agree(t, fmt.Sprint("Instantiate ", c.n), thy, c.e, Step{Rule: api.Instantiate, Inst: api.Inst{Terms: []api.TermBind{{Name: "x", To: numeral(c.n)}}}}, refl)
		agree(t, fmt.Sprint("Abstraction ", c.n), thy, c.e, Step{Rule: api.Abstraction, Term: of("$x:N")}, ok(b.Reflexive(numeral(c.n-1))))
		types := ok(b.Reflexive(of("?x.0:?a.0")))
		agree(t, fmt.Sprint("types ", c.n), thy, c.e, Step{Rule: api.Instantiate, Inst: api.Inst{Types: []api.TypeBind{{Name: "a", To: list(c.n)}}}}, types)
		inside := ok(b.Reflexive(of("?x.0:list(?a.0)")))
		agree(t, fmt.Sprint("types inside ", c.n), thy, c.e, Step{Rule: api.Instantiate, Inst: api.Inst{Types: []api.TypeBind{{Name: "a", To: list(c.n - 1)}}}}, inside)
	}
	for _, n := range []int{100, 101} {
		k, l := many(n)
		want := []api.Errno{api.OK, api.ErrCount}[n-100]
		var names []string
		for i := range n {
			names = append(names, fmt.Sprint("n", i))
		}
		agree(t, "binds of types", thy, want, Step{Rule: api.Instantiate, Inst: api.Inst{Types: k}}, refl)
		agree(t, "binds of terms", thy, want, Step{Rule: api.Instantiate, Inst: api.Inst{Terms: l}}, refl)
		agree(t, "binds", thy, want, Step{Rule: api.Instantiate, Inst: api.Inst{Types: k, Terms: l}}, refl)
		agree(t, "names of types", thy, want, Step{Rule: api.Generalize, TypeNames: names}, refl)
		agree(t, "names of terms", thy, want, Step{Rule: api.Generalize, TermNames: names}, refl)
		agree(t, "names", thy, want, Step{Rule: api.Generalize, TypeNames: names, TermNames: names}, refl)
	}
}

// P7.1: at the limits of sorts and sizes.
func TestP71SortsAndSizes(t *testing.T) {
	thy := small()
	var classes []string
	for i := range 21 {
		thy.Classes = append(thy.Classes, api.Class{Name: fmt.Sprintf("k%02d", i)})
		classes = append(classes, fmt.Sprintf("k%02d", i))
	}
	if e := theory.Check(thy); e != api.OK {
		t.Fatal(e)
	}
	free := func(s ...string) api.Term {
		return api.Term{Op: api.Free, Name: "x", Type: api.Type{Op: api.TFree, Name: "a", Sort: s}}
	}
	agree(t, "20 classes", thy, api.OK, Step{Rule: api.Reflexive, Term: free(classes[:20]...)})
	agree(t, "21 classes", thy, api.ErrCount, Step{Rule: api.Reflexive, Term: free(classes...)})
	agree(t, "a class twice", thy, api.ErrForm, Step{Rule: api.Reflexive, Term: free("ord", "ord")})
	for _, n := range []int{9998, 9999} {
		want := []api.Errno{api.OK, api.ErrLarge}[n-9998]
		agree(t, "wide type", thy, want, Step{Rule: api.Reflexive, Term: api.Term{Op: api.Free, Name: "x", Type: wideType(n)}})
	}
	b, _ := On(thy)
	a := ok(b.Assume(of("$A:P")))
	for _, n := range []int{19996, 19997} {
		want := []api.Errno{api.OK, api.ErrLarge}[n-19996]
		agree(t, "wide type of a Free", thy, want, Step{Rule: api.AllIntro, Term: api.Term{Op: api.Free, Name: "x", Type: wideType(n)}}, a)
	}
	refl := ok(b.Reflexive(of("?x.0:N")))
	all := ok(AllIntro(of("$x:N"), ok(b.Reflexive(of("$x:N")))))
	for _, n := range []int{9998, 9999} { // both sides, and 3 nodes around
		want := []api.Errno{api.OK, api.ErrLarge}[n-9998]
		agree(t, "Reflexive", thy, want, Step{Rule: api.Reflexive, Term: sized(n)})
		agree(t, "Instantiate", thy, want, Step{Rule: api.Instantiate, Inst: api.Inst{Terms: []api.TermBind{{Name: "x", To: sized(n)}}}}, refl)
		agree(t, "AllElim", thy, want, Step{Rule: api.AllElim, Term: sized(n)}, all)
		agree(t, "Beta", thy, want, Step{Rule: api.Beta, Term: app(of("(\\x:N . #0)"), sized(n-1))})
		agree(t, "Beta of another term", thy, api.OK, Step{Rule: api.Beta, Term: app(of("(\\x:N . z:N)"), sized(n))})
		prop := of(eq("N", "z:N", "z:N"))
		prop.Kids[0].Kids[1], prop.Kids[1] = sized(9999), sized(n)
		agree(t, "Assume", thy, []api.Errno{api.OK, api.ErrCount}[n-9998], Step{Rule: api.Assume, Term: prop})
		prop.Kids[0].Kids[1] = sized(9995)
		agree(t, "ImpIntro", thy, want, Step{Rule: api.ImpIntro, Term: prop}, a) // 4 more
		agree(t, "ImpIntro of", thy, want, Step{Rule: api.ImpIntro, Term: of("$A:P")}, ok(b.Assume(prop)))
	}
}

// sized returns a term of the type nat with n nodes that is not deep.
func sized(n int) api.Term {
	switch n % 4 {
	case 0:
		return app(of("(\\x:N . #0)"), sized(n-3))
	case 2, 3:
		return app(of("s:F(N, N)"), sized(n-2))
	}
	return balanced((n+3)/4, of("z:N"))
}

// P7.1: what looks like the proposition that a rule wants.
func TestP71Almost(t *testing.T) {
	thy, e := theory.Extend(small(), "T", api.Theory{Consts: []api.ConstDecl{{Name: "every", Type: typ("F(F(N, P), P)")}, {Name: "implies", Type: typ("F(P, F(P, P))")}, {Name: "same", Type: typ("F(?a.0, F(?a.0, P))")}}})
	if e != api.OK {
		t.Fatal(e)
	}
	b, _ := On(thy)
	for _, s := range []string{"$A:P", "(every:F(F(N, P), P) (\\x:N . $A:P))", "(all:F(F(N, P), P) $p:F(N, P))", "($all:F(F(N, P), P) (\\x:N . $A:P))", "((implies:F(P, F(P, P)) $A:P) $A:P)", "(($imp:F(P, F(P, P)) $A:P) $A:P)", "((same:F(N, F(N, P)) z:N) z:N)", "(($eq:F(N, F(N, P)) z:N) z:N)", "some:P", "(protect:F(P, P) $A:P)", "((\\x:P . #0) $A:P)"} {
		x := ok(b.Assume(of(s)))
		agree(t, "AllElim "+s, thy, api.ErrFail, Step{Rule: api.AllElim, Term: of("z:N")}, x)
		agree(t, "Symmetric "+s, thy, api.ErrFail, Step{Rule: api.Symmetric}, x)
		agree(t, "ImpElim "+s, thy, api.ErrFail, Step{Rule: api.ImpElim}, x, ok(b.Assume(of("$A:P"))))
		agree(t, "EqElim "+s, thy, api.ErrFail, Step{Rule: api.EqElim}, x, ok(b.Assume(of("$A:P"))))
		agree(t, "EqIntro "+s, thy, api.ErrFail, Step{Rule: api.EqIntro}, x, x)
		agree(t, "Transitive "+s, thy, api.ErrFail, Step{Rule: api.Transitive}, x, x)
		agree(t, "Combination "+s, thy, api.ErrFail, Step{Rule: api.Combination}, ok(b.Reflexive(of("s:F(N, N)"))), x)
		agree(t, "Abstraction "+s, thy, api.ErrFail, Step{Rule: api.Abstraction, Term: of("$x:N")}, x)
	}
	refl := ok(b.Reflexive(of("((some:F(N, F(list(N), N)) ?x.0:N) ?l.0:list(N))")))
	for _, s := range []string{"x.0 $y:'nat", "x.0 ?y.0:?nat.0", "l.0 $y:list('nat)", "l.0 $y:N", "x.0 $y:list(N)", "l.0 $y:pair(N, N)"} {
		agree(t, s, thy, api.ErrType, Step{Rule: api.Instantiate, Inst: api.Inst{Terms: termBinds(s)}}, refl)
	}
	for _, s := range []string{"z:N", "(s:F(N, N) z:N)", "(\\x:N . z:N)", "(\\x:N . #0)", "(\\x:N . (\\y:N . #1))", "((some:F(N, F(N, N)) z:N) z:N)", "(\\x:F(N, N) . (#0 z:N))", "(\\x:F(N, N) . (s:F(N, N) (#0 z:N)))"} {
		agree(t, "Eta "+s, thy, api.ErrFail, Step{Rule: api.Eta, Term: of(s)})
		agree(t, "Beta "+s, thy, api.ErrFail, Step{Rule: api.Beta, Term: of(s)})
	}
}
