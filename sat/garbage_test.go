package sat

import (
	"math/rand"
	"testing"

	"triforium/api"
	"triforium/arith"
	"triforium/classical"
	"triforium/conv"
	"triforium/hol"
	"triforium/kernel"
	"triforium/simp"
	"triforium/tableau"
	"triforium/tactic"
	"triforium/testlang"
	"triforium/theory"
)

// garbage makes any arguments: most are wrong somewhere.
type garbage struct {
	*rand.Rand
	thys     []api.Theory
	theorems []kernel.Theorem
	words    []string
}

func newGarbage(seed int64) *garbage {
	g := &garbage{Rand: rand.New(rand.NewSource(seed))}
	nat := testlang.Theory(hol.Nat(), "t", "p : t => bool; c : t", "p_c : |- p c; swap : (?m + ?n) == (?n + ?m); imp : |- p ?x ==> |- p (c :: t)")
	broken := hol.HOL()
	broken.Consts[4].Type = api.Type{}
	g.thys = []api.Theory{hol.HOL(), nat, theory.Pure(), {}, broken, nat, nat}
	g.theorems = append(testlang.Axioms(nat, "p_c swap imp if_true subst"), kernel.Theorem{})
	for _, s := range []string{"|- p c", "!!x. |- p x ==> |- p x", "|- (a & b --> a)"} {
		t, _ := tactic.Goal(nat, testlang.Term(nat, s))
		g.theorems = append(g.theorems, t, testlang.Assumed(nat, s))
	}
	g.words = []string{"", "True", "False", "Not", "And", "Or", "Implies", "Equal", "All", "Ex", "If", "Trueprop", "Zero", "Suc", "plus", "times", "le", "x", "p", "c", "eq", "imp", "all", "fun", "bool", "nat", "prop", "?"}
	return g
}

func (g *garbage) number() int {
	return []int{0, 0, 1, 1, 2, 3, -1, 7, 50, 1 << 40, -1 << 63, 1<<63 - 1}[g.Intn(12)]
}

func (g *garbage) word() string { return g.words[g.Intn(len(g.words))] }

func (g *garbage) typ(depth int) api.Type {
	b, n := hol.BoolType(), hol.NatType()
	fun := func(l ...api.Type) api.Type { return api.Type{Op: api.TCon, Name: "fun", Args: l} }
	switch g.Intn(8) {
	case 0:
		return b
	case 1:
		return n
	case 2, 3:
		return fun(b, fun(b, b))
	case 4:
		return fun(n, fun(n, b))
	case 5:
		return fun(b, b)
	}
	t := api.Type{Op: g.Intn(5), Name: g.word(), Index: g.Intn(3) - 1}
	for range g.Intn(3) {
		if depth > 0 {
			t.Args = append(t.Args, g.typ(depth-1))
		}
	}
	return t
}

func (g *garbage) term(depth int) api.Term {
	a := func() api.Term { return g.term(depth - 1) }
	if depth > 0 {
		switch g.Intn(12) {
		case 0:
			return hol.And(a(), a())
		case 1:
			return hol.Not(a())
		case 2:
			return hol.Implies(a(), a())
		case 3:
			if t, e := hol.Equal(a(), a()); e == api.OK {
				return t
			}
		case 4:
			if t, e := hol.All(api.Term{Op: api.Free, Name: "x", Type: g.typ(1)}, a()); e == api.OK {
				return t
			}
		case 5:
			return hol.Truth(a())
		case 6:
			return api.Term{Op: api.App, Kids: []api.Term{a(), a()}}
		case 7:
			return api.Term{Op: api.Abs, Name: g.word(), Type: g.typ(1), Kids: []api.Term{a()}}
		case 8:
			if t, e := hol.If(a(), a(), a()); e == api.OK {
				return t
			}
		}
	}
	switch g.Intn(5) {
	case 0:
		return hol.True()
	case 1:
		return api.Term{Op: api.Free, Name: "b", Type: hol.BoolType()}
	case 2:
		return api.Term{Op: api.Bound, Num: g.Intn(3) - 1}
	}
	t := api.Term{Op: g.Intn(8), Name: g.word(), Num: g.number(), Type: g.typ(2)}
	for range g.Intn(3) {
		if depth > 0 {
			t.Kids = append(t.Kids, a())
		}
	}
	return t
}

func (g *garbage) theory() api.Theory      { return g.thys[g.Intn(len(g.thys))] }
func (g *garbage) theorem() kernel.Theorem { return g.theorems[g.Intn(len(g.theorems))] }

func (g *garbage) some() []kernel.Theorem {
	var out []kernel.Theorem
	for range g.Intn(4) {
		out = append(out, g.theorem())
	}
	return out
}

func (g *garbage) expr(depth int) conv.Expr {
	e := conv.Expr{Kind: g.Intn(18), Num: g.Intn(2)}
	if e.Kind != conv.Rule && g.Intn(9) > 0 {
		e.Num = 0
	}
	for range g.Intn(3) {
		if depth > 0 {
			e.Kids = append(e.Kids, g.expr(depth-1))
		}
	}
	return e
}

func (g *garbage) terms(depth int) []api.Term {
	var out []api.Term
	for range g.Intn(4) {
		out = append(out, g.term(depth))
	}
	return out
}

func (g *garbage) tree(depth int) tableau.Tree {
	t := tableau.Tree{Kind: g.Intn(8), At: g.Intn(4) - 1, Other: g.Intn(3)}
	if g.Intn(3) == 0 {
		t.Term = g.term(1)
	}
	for range g.Intn(3) {
		if depth > 0 {
			t.Kids = append(t.Kids, g.tree(depth-1))
		}
	}
	return t
}

func (g *garbage) clauses() []Clause {
	var out []Clause
	for range g.Intn(5) {
		var c Clause
		for range g.Intn(4) {
			c = append(c, []int{1, 2, 3, -1, -2, g.number()}[g.Intn(6)])
		}
		out = append(out, c)
	}
	return out
}

// Whatever the arguments are, functions return, and with an error nothing else.
func TestP1Garbage(t *testing.T) {
	g := newGarbage(1)
	alone := func(what string, th kernel.Theorem, e api.Errno) {
		if th.Is() != (e == api.OK) {
			t.Error(what, e, testlang.Sequent(th))
		}
		if e == api.OK && g.Intn(10) == 0 && testlang.Fault(th) != "" {
			t.Error(what, testlang.Fault(th))
		}
	}
	for range 500 {
		thy, x := g.theory(), g.term(3)
		th, e := conv.Run(thy, g.some(), g.expr(2), x, g.number())
		alone("conv.Run", th, e)
		th, e = conv.Convert(nil, g.theorem())
		alone("conv.Convert", th, e)
		s := simp.Set{Rules: g.some(), Congs: g.some()[:0], Procs: []simp.Proc{{Pattern: g.term(1), Rules: g.some(), Expr: g.expr(1)}}[:g.Intn(2)]}
		simp.Check(thy, s)
		simp.Extract(thy, g.theorem())
		simp.Ordered(thy, g.theorem())
		th, e = simp.Cong(thy, g.theorem())
		alone("simp.Cong", th, e)
		th, e = simp.Rewrite(thy, s, g.some(), x, g.Intn(3), 30)
		alone("simp.Rewrite", th, e)
		th, e = simp.Simplify(thy, s, g.theorem(), g.number(), g.number())
		alone("simp.Simplify", th, e)
		th, e = simp.Split(thy, x)
		alone("simp.Split", th, e)
		th, _, e = simp.Goal(s, g.theorem(), g.number(), g.Intn(3), 30)
		alone("simp.Goal", th, e)
		hol.Number(x)
		hol.Untruth(x)
		hol.Connective(x)
		tableau.Kind(x)
	}
}

func TestP1GarbageProvers(t *testing.T) {
	g := newGarbage(2)
	alone := func(what string, th kernel.Theorem, e api.Errno) {
		if th.Is() != (e == api.OK) {
			t.Error(what, e, testlang.Sequent(th))
		}
		if e == api.OK && g.Intn(10) == 0 && testlang.Fault(th) != "" {
			t.Error(what, testlang.Fault(th))
		}
	}
	for range 250 {
		thy, x := g.theory(), g.term(3)
		l := []classical.Rule{{Theorem: g.theorem(), Kind: g.Intn(5), Safe: g.Intn(2) == 0}}
		classical.Check(l)
		th, _, e := classical.Safe(l, g.theorem(), g.number(), 20)
		alone("classical.Safe", th, e)
		th, _, e = classical.Search(l, g.theorem(), g.Intn(2), g.Intn(3), 40)
		alone("classical.Search", th, e)
		th, e = classical.Prove(thy, l, x, g.number())
		alone("classical.Prove", th, e)
		classical.Tautology(x)
		tree := g.tree(2)
		forms := g.terms(2)
		tableau.Check(thy, forms, tree)
		th, e = tableau.Replay(thy, forms, tree)
		alone("tableau.Replay", th, e)
		th, e = tableau.Prove(thy, x, g.Intn(3), g.number())
		alone("tableau.Prove", th, e)
		arith.Rows(forms)
		arith.Extend(thy)
		th, _, e = arith.Prove(thy, forms, x, g.number())
		alone("arith.Prove", th, e)
		c := g.clauses()
		p := []Step{{g.Intn(4), g.Intn(4), g.Intn(4)}, {g.number(), g.Intn(4), 1}}
		Solve(c, g.number())
		Replay(c, p)
		Trim(c, p)
		Clauses(x)
		th, e = Tautology(thy, x, g.number())
		alone("sat.Tautology", th, e)
		th, e = Rebuild(thy, g.terms(1), c, p)
		alone("sat.Rebuild", th, e)
	}
}
