package kernel

import (
	"fmt"
	"testing"

	"triforium/api"
	"triforium/checker"
	"triforium/proof"
	"triforium/term"
	"triforium/types"
)

// list returns a type of n nodes within each other.
func list(n int) api.Type {
	t := typ("N")
	for range n - 1 {
		t = api.Type{Op: api.TCon, Name: "list", Args: []api.Type{t}}
	}
	return t
}

// wideType returns a type of n nodes that is not deep.
func wideType(n int) api.Type {
	if n < 3 {
		return list(n)
	}
	return types.Fun(wideType((n-1)/2), wideType(n-1-(n-1)/2))
}

// wide returns a proposition of n nodes (n of 1, 5, 9, ..) that is not deep.
func wide(n int) api.Term {
	if n == 1 {
		return of("$A:P")
	}
	half := (n - 3) / 2
	half += (5 - half%4) % 4 // 1 modulo 4
	return term.Imp(wide(half), wide(n-3-half))
}

// numeral returns s (.. (s z)) with n nodes within each other.
func numeral(n int) api.Term {
	t := of("z:N")
	for range n - 1 {
		t = api.Term{Op: api.App, Kids: []api.Term{of("s:F(N, N)"), t}}
	}
	return t
}

// dummies returns an abstraction with n Bounds of it and 2n+1 nodes, of the type from nat to nat.
func dummies(n int) api.Term {
	body := api.Term{Op: api.Bound}
	for range n - 1 {
		body = api.Term{Op: api.App, Kids: []api.Term{{Op: api.App, Kids: []api.Term{of("op:F(N, F(N, N))"), body}}, {Op: api.Bound}}}
	}
	return api.Term{Op: api.Abs, Type: typ("N"), Kids: []api.Term{body}}
}

// balanced returns a term of the type nat with n leaves.
func balanced(n int, leaf api.Term) api.Term {
	if n == 1 {
		return leaf
	}
	f := api.Term{Op: api.App, Kids: []api.Term{of("op:F(N, F(N, N))"), balanced(n/2, leaf)}}
	return api.Term{Op: api.App, Kids: []api.Term{f, balanced(n-n/2, leaf)}}
}

// weakened adds hypotheses to a theorem, so that it has n more.
func weakened(t Theorem, n int) Theorem {
	b := t.Base()
	for i := range n {
		a := of(fmt.Sprintf("$h%d:P", i))
		t = ok(ImpElim(ok(ImpIntro(a, t)), ok(b.Assume(a))))
	}
	return t
}

func TestP61Hypotheses(t *testing.T) {
	most := weakened(assume("$A:P"), api.MaxHyps-1)
	if n := len(most.Hyps()); n != api.MaxHyps {
		t.Fatal(n)
	}
	b := of("$B:P")
	x, e := ImpElim(ok(ImpIntro(b, most)), assume("$B:P"))
	fails(t, x, e, api.ErrCount)
	if x, e := ImpElim(ok(ImpIntro(b, most)), ok(Oracle(small(), "trust", b))); e != api.OK || len(x.Hyps()) != api.MaxHyps {
		t.Error(e)
	}
	// ahead of the size of the proposition
	f, g := ok(Reflexive(small(), balanced(2000, of("z:N")))), weakened(ok(Reflexive(small(), api.Term{Op: api.App, Kids: []api.Term{of("op:F(N, F(N, N))"), balanced(2000, of("z:N"))}})), api.MaxHyps)
	x, e = Combination(g, f)
	fails(t, x, e, api.ErrLarge)
	x, e = Combination(g, ok(ImpElim(ok(ImpIntro(b, f)), assume("$B:P"))))
	fails(t, x, e, api.ErrCount)
}

func TestP61LargeTerms(t *testing.T) {
	b, _ := On(small())
	half := wide(9997)
	x, e := ImpIntro(half, ok(b.Assume(of(imp("$A:P", imp("$A:P", "$A:P"))))))
	if n, _ := term.Size(x.Prop()); e != api.OK || n != 9997+9+3 {
		t.Error(n, e)
	}
	x, e = ImpIntro(wide(10001), ok(b.Assume(half)))
	fails(t, x, e, api.ErrLarge)
	x, e = ImpIntro(half, ok(b.Assume(wide(9993))))
	if n, _ := term.Size(x.Prop()); e != api.OK || n != 19993 {
		t.Error(n, e)
	}
	if _, e := b.Assume(wide(19997)); e != api.OK {
		t.Error(e)
	}
	if _, e := b.Assume(wide(20001)); e != api.ErrCount { // that of term.Check
		t.Error(e)
	}
	if _, e := ImpIntro(of("$C:P"), ok(b.Assume(wide(19997)))); e != api.ErrLarge {
		t.Error(e)
	}
	// 498 within each other as sides of an equation
	if _, e := b.Reflexive(numeral(498)); e != api.OK {
		t.Error(e)
	}
	if _, e := b.Reflexive(numeral(499)); e != api.ErrLarge {
		t.Error(e)
	}
	if _, e := b.Reflexive(numeral(501)); e != api.ErrDepth {
		t.Error(e)
	}
	// what Beta, AllElim and Instantiate put in many places
	redex := api.Term{Op: api.App, Kids: []api.Term{dummies(120), balanced(2000, of("z:N"))}}
	x, e = b.Beta(redex)
	fails(t, x, e, api.ErrLarge)
	redex.Kids[1] = numeral(10)
	if _, e := b.Beta(redex); e != api.OK {
		t.Error(e)
	}
	redex.Kids[1] = numeral(490)
	x, e = b.Beta(redex)
	fails(t, x, e, api.ErrLarge)
	many := balanced(2000, of("?x.0:N"))
	refl := ok(b.Reflexive(many))
	x, e = Instantiate(api.Inst{Terms: []api.TermBind{{Name: "x", To: balanced(2000, of("z:N"))}}}, refl)
	fails(t, x, e, api.ErrLarge)
	if _, e := Instantiate(api.Inst{Terms: termBinds("x.0 $y:N")}, refl); e != api.OK {
		t.Error(e)
	}
	open := ok(b.Reflexive(balanced(2000, of("$x:N"))))
	gone := ok(AllIntro(of("$x:N"), open))
	x, e = AllElim(balanced(2000, of("z:N")), gone)
	fails(t, x, e, api.ErrLarge)
	x, e = AllElim(numeral(490), gone)
	fails(t, x, e, api.ErrLarge)
	// ahead of types that differ in the result
	clash := ok(ImpIntro(of(eq("P", "$y:P", "$y:P")), refl))
	x, e = Instantiate(api.Inst{Terms: []api.TermBind{{Name: "x", To: balanced(2000, of("$y:N"))}}}, clash)
	fails(t, x, e, api.ErrLarge)
	x, e = Instantiate(api.Inst{Terms: termBinds("x.0 $y:N")}, clash)
	fails(t, x, e, api.ErrType)
	// a hypothesis that becomes too large
	hyp := ok(ImpElim(ok(ImpIntro(wide(17), assume("$B:P"))), ok(b.Assume(wide(17)))))
	g := ok(Generalize(nil, nil, 0, hyp))
	if _, e := Instantiate(api.Inst{}, g); e != api.OK {
		t.Error(e)
	}
	schematic := ok(b.Assume(term.Imp(of("?A.0:P"), term.Imp(of("?A.0:P"), of("$B:P")))))
	hyp = ok(ImpElim(ok(ImpElim(schematic, ok(b.Assume(of("?A.0:P"))))), ok(b.Assume(of("?A.0:P")))))
	x, e = Instantiate(api.Inst{Terms: []api.TermBind{{Name: "A", To: wide(9997)}}}, hyp)
	fails(t, x, e, api.ErrLarge)
	if _, e := Instantiate(api.Inst{Terms: []api.TermBind{{Name: "A", To: wide(9993)}}}, hyp); e != api.OK {
		t.Error(e)
	}
}

func TestP61LargeTypes(t *testing.T) {
	b, _ := On(small())
	a := ok(b.Assume(of("$A:P")))
	free := func(k api.Type) api.Term { return api.Term{Op: api.Free, Name: "x", Type: k} }
	for i, c := range []struct {
		k api.Type
		e api.Errno
	}{{wideType(19996), api.OK}, {wideType(19997), api.ErrLarge}, {wideType(20001), api.ErrCount}, {list(498), api.OK}, {list(499), api.ErrLarge}, {list(501), api.ErrDepth}} {
		if x, e := AllIntro(free(c.k), a); e != c.e || x.Is() != (e == api.OK) {
			t.Error(i, e)
		}
	}
	for i, c := range []struct {
		k api.Type
		e api.Errno
	}{{wideType(9998), api.OK}, {wideType(9999), api.ErrLarge}, {list(498), api.OK}, {list(499), api.ErrLarge}} {
		x, e := b.Reflexive(free(c.k))
		if e != c.e || x.Is() != (e == api.OK) {
			t.Error(i, e)
		}
	}
	if _, e := Abstraction(api.Term{Op: api.Free, Name: "y", Type: wideType(9997)}, ok(b.Reflexive(of("z:N")))); e != api.ErrLarge {
		t.Error(e)
	}
	if _, e := Abstraction(api.Term{Op: api.Free, Name: "y", Type: wideType(9996)}, ok(b.Reflexive(of("z:N")))); e != api.OK {
		t.Error(e)
	}
	com := ok(b.Axiom("op_com")) // op has ?a.0 three times
	for i, c := range []struct {
		k api.Type
		e api.Errno
	}{{wideType(6666), api.OK}, {wideType(6667), api.ErrLarge}, {list(498), api.OK}, {list(499), api.ErrLarge}} {
		x, e := Instantiate(api.Inst{Types: []api.TypeBind{{Name: "a", To: c.k}}}, com)
		if e != c.e || x.Is() != (e == api.OK) {
			t.Error(i, e)
		}
		y, e := checker.Check(small(), api.Proof{Op: api.Instantiate, Inst: api.Inst{Types: []api.TypeBind{{Name: "a", To: c.k}}}, Kids: []api.Proof{com.Proof()}})
		if (e == api.OK) != x.Is() || x.Is() && !checker.Same(y, sequentOf(x)) {
			t.Error(i, "checker", e)
		}
	}
	// very large instances of types are compared without being built: of the type of a variable that goes away
	gone := ok(b.Assume(of("(?f.0:F(?a.0, P) $y:?a.0)")))
	k := wideType(19999)
	constant := api.Term{Op: api.Abs, Name: "q", Type: k, Kids: []api.Term{of("$A:P")}}
	i := api.Inst{Types: []api.TypeBind{{Name: "a", To: k}}, Terms: []api.TermBind{{Name: "f", To: constant}}}
	x, e := Instantiate(i, gone)
	if e != api.OK {
		t.Error(e)
	}
	if s, e := checker.Check(small(), x.Proof()); e != api.OK || !checker.Same(s, sequentOf(x)) {
		t.Error(e)
	}
	i.Terms[0].To.Type = wideType(19998)
	x, e = Instantiate(i, gone)
	fails(t, x, e, api.ErrType)
}

// sequentOf returns what a theorem states, as the checker says it.
func sequentOf(x Theorem) checker.Sequent {
	return checker.Sequent{Hyps: x.Hyps(), Prop: x.Prop(), Oracles: x.Oracles()}
}

func TestP61LargeProofs(t *testing.T) {
	x := refl("z:N")
	for range 29999 {
		x = ok(Symmetric(x))
	}
	y, e := Symmetric(x)
	fails(t, y, e, api.ErrLarge)
	if _, d := proof.Size(x.Proof()); d != 30000 {
		t.Error(d)
	}
	if s, e := checker.Check(small(), x.Proof()); e != api.OK || !checker.Same(s, sequentOf(x)) {
		t.Error(e)
	}
	// doublings with 1, 3, 7, .. nodes
	l := []Theorem{refl("z:N")}
	for i := range 19 {
		l = append(l, ok(Transitive(l[i], l[i])))
	}
	sum, nodes := l[19], 1<<20-1
	for i := 18; i >= 0; i-- {
		for nodes+1<<(i+1) <= api.MaxProof {
			sum = ok(Transitive(sum, l[i]))
			nodes += 1 << (i + 1)
		}
	}
	for nodes < api.MaxProof {
		sum = ok(Symmetric(sum))
		nodes++
	}
	y, e = Symmetric(sum)
	fails(t, y, e, api.ErrLarge)
	y, e = Transitive(l[19], l[19])
	fails(t, y, e, api.ErrLarge)
	if n, _ := proof.Size(sum.Proof()); n != api.MaxProof {
		t.Error(n)
	}
	if x, e := checker.Check(small(), sum.s.proof); e != api.OK || !checker.Same(x, sequentOf(sum)) {
		t.Error(e)
	}
	if _, e := checker.Check(small(), api.Proof{Op: api.Symmetric, Kids: []api.Proof{sum.s.proof}}); e != api.ErrLarge {
		t.Error(e)
	}
	if y, e := Transfer(greater(), sum); e != api.OK || !y.Is() {
		t.Error(e)
	}
}
