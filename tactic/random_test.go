package tactic

import (
	"fmt"
	"math/rand"
	"slices"
	"strings"
	"testing"

	"triforium/api"
	"triforium/checker"
	"triforium/derive"
	"triforium/kernel"
	"triforium/term"
)

const kinds = "?x: N; ?y: N; ?P: P; ?Q: P; ?R: P; ?F: N>P; $n: N; $A: P; $B: P; All: (N>P)>P; Ex: (N>P)>P; e: N>N>P; eq: N>N>P; eqP: P>P>P"

// gen makes random expressions.
type gen struct {
	*rand.Rand
}

func newGen(seed int) gen { return gen{rand.New(rand.NewSource(int64(seed)))} }

// someRules returns a few rules, and equations.
func someRules() []kernel.Theorem {
	texts := []string{
		"?P ==> ?Q ==> And ?P ?Q", "And ?P ?Q ==> ?P", "And ?P ?Q ==> (?P ==> ?Q ==> ?R) ==> ?R", "(!!x:N. ?F x) ==> All ?F", "All ?F ==> ?F ?x", "?F ?x ==> Ex ?F", "Ex ?F ==> (!!x:N. ?F x ==> ?Q) ==> ?Q", "A", "p a |- B", "A ==> B ==> C",
	}
	var l []kernel.Theorem
	for _, s := range texts {
		l = append(l, stated(kinds, s))
	}
	for _, x := range [][2]string{{"a", "s b"}, {"$n", "z"}, {"A", "And B B"}, {"p", "%k:N. q (s k)"}, {"s z", "a"}} {
		l = append(l, equation(x[0], x[1], ""))
	}
	return append(l, equation("b", "a", "B"))
}

// equation returns an equation that an oracle states, perhaps from a hypothesis.
func equation(a, b, hyp string) kernel.Theorem {
	t, e := term.Eq(of(kinds, a), of(kinds, b))
	if e != api.OK {
		panic(e)
	}
	th := derive.Must(kernel.Oracle(little(), "orc", t))
	if hyp != "" {
		h := of(kinds, hyp)
		th = derive.Must(kernel.ImpElim(derive.Must(kernel.ImpIntro(h, th)), derive.Must(kernel.Assume(little(), h))))
	}
	return th
}

func (g gen) prop(params []string, depth int) string {
	pick := func(l ...string) string { return l[g.Intn(len(l))] }
	nat := func() string {
		if len(params) > 0 && g.Intn(2) == 0 {
			return pick(params...)
		}
		return pick("a", "b", "z", "(s z)", "$n", "(s a)")
	}
	if depth > 0 {
		switch g.Intn(7) {
		case 0, 1:
			return "(And " + g.prop(params, depth-1) + " " + g.prop(params, depth-1) + ")"
		case 2:
			return pick("(All (%k:N. ", "(Ex (%k:N. ") + g.prop(append(slices.Clone(params), "k"), depth-1) + "))"
		}
	}
	return pick("A", "B", "C", "(p "+nat()+")", "(q "+nat()+")", "(r "+nat()+" "+nat()+")", "(p a)")
}

func (g gen) subgoal(depth int) string {
	s := g.prop([]string{"v"}, depth)
	for range g.Intn(3) {
		h := g.prop([]string{"v"}, 1)
		if g.Intn(3) == 0 {
			h = s
			if strings.Contains(h, "==>") {
				h = "A"
			}
		}
		s = h + " ==> " + s
	}
	return "(!!v:N. " + s + ")"
}

// state returns a state with a few subgoals.
func (g gen) state() kernel.Theorem {
	var l []api.Term
	for range g.Intn(4) {
		s := g.subgoal(2)
		if g.Intn(2) == 0 {
			s = g.prop(nil, 2)
		}
		l = append(l, of(kinds, s))
	}
	t := derive.Must(kernel.Oracle(little(), "orc2", imply(l, term.Protect(of(kinds, g.prop(nil, 1))))))
	for range g.Intn(3) {
		h := of(kinds, g.prop(nil, 1))
		t = derive.Must(kernel.ImpElim(derive.Must(kernel.ImpIntro(h, t)), derive.Must(kernel.Assume(little(), h))))
	}
	return t
}

func (g gen) expr(depth int, rules int) Expr {
	if depth == 0 || g.Intn(4) == 0 {
		e := Expr{Kind: []int{Rule, Rule, Rule, Rule, Erule, Erule, Drule, Assume, Assume, Rotate, Protect, Unfold, Unfold, Cut, Pass, Fail}[g.Intn(16)]}
		switch e.Kind {
		case Pass, Fail:
			return e
		case Rule:
			e.Num = []int{0, 3, 5, 7, 8, 9}[g.Intn(6)]
		case Erule:
			e.Num = []int{2, 6}[g.Intn(2)]
		case Drule:
			e.Num = []int{1, 4}[g.Intn(2)]
		case Unfold:
			e.Num = 10 + g.Intn(rules-10)
		case Cut:
			e.Prop = of(kinds, g.prop(nil, 1))
		}
		if g.Intn(3) == 0 {
			e.At = g.Intn(3)
		}
		return e
	}
	e := Expr{Kind: []int{Then, Then, Then, Or, Else, Try, Repeat, Each, First, Solve}[g.Intn(10)]}
	k, _ := takesOf(e.Kind)
	for range k.kids {
		e.Kids = append(e.Kids, g.expr(depth-1, rules))
	}
	return e
}

// taken reports whether the checker takes the proof of a theorem, and finds what it states.
func taken(t kernel.Theorem) bool {
	s, e := checker.Check(t.Theory(), t.Proof())
	return e == api.OK && checker.Same(s, checker.Sequent{Hyps: t.Hyps(), Prop: t.Prop(), Oracles: t.Oracles()})
}

func exprText(e Expr) string {
	names := []string{"", "Pass", "Fail", "Rule", "Erule", "Drule", "Assume", "Rotate", "Protect", "Then", "Or", "Else", "Try", "Repeat", "Each", "First", "Solve", "Unfold", "Cut"}
	s := names[e.Kind]
	if e.At != 0 {
		s += fmt.Sprint("@", e.At)
	}
	if e.Num != 0 {
		s += fmt.Sprint("#", e.Num)
	}
	for i, k := range e.Kids {
		s += []string{"(", ", "}[min(i, 1)] + exprText(k)
	}
	if len(e.Kids) > 0 {
		s += ")"
	}
	return s
}

// The states are those of the document, word by word, and their proofs are taken.
func TestP131Random(t *testing.T) {
	thy, rules := little(), someRules()
	made, many, none := 0, 0, 0
	for seed := range 3000 {
		g := newGen(seed)
		e, state := g.expr(3, len(rules)), g.state()
		want, ok := naiveRun(rules, e, state)
		if !ok {
			many++
			continue
		}
		got, more, err := Run(thy, rules, e, state, MaxFuel, 10)
		if err != api.OK || more != (len(want) > 10) || len(got) != min(10, len(want)) {
			t.Fatal(seed, err, exprText(e), theoremText(state), len(got), len(want))
		}
		for i, x := range got {
			if !equalSays(what(x), want[i]) {
				t.Fatal(seed, i, exprText(e), theoremText(state), "\n", theoremText(x), "\n", brief(want[i].prop))
			}
			if i < 3 && !taken(x) {
				t.Fatal(seed, "not taken")
			}
		}
		made += len(got)
		if len(got) == 0 {
			none++
		}
	}
	if made < 1000 || none < 500 || many > 300 {
		t.Error(made, many, none)
	}
}

// run returns what all states state that an expression makes, and whether the fuel lasts.
func run(rules []kernel.Theorem, e Expr, state kernel.Theorem, fuel int) ([]says, api.Errno) {
	l, _, err := Run(little(), rules, e, state, fuel, maxMost)
	var out []says
	for _, t := range l {
		out = append(out, what(t))
	}
	return out, err
}

// Expressions that are to make the same.
func TestP133Random(t *testing.T) {
	rules := someRules()
	node := func(kind int, l ...Expr) Expr { return Expr{Kind: kind, Kids: l} }
	pass, fail := node(Pass), node(Fail)
	for seed := range 500 {
		g := newGen(seed)
		a, b, c, state := g.expr(1, len(rules)), g.expr(1, len(rules)), g.expr(1, len(rules)), g.state()
		fuel := 5 + g.Intn(40)
		for i, x := range [][2]Expr{
			{node(Then, a, node(Then, b, c)), node(Then, node(Then, a, b), c)}, {node(Or, a, node(Or, b, c)), node(Or, node(Or, a, b), c)},
			{node(Then, pass, a), a}, {node(Then, a, pass), a}, {node(Or, fail, a), a}, {node(Or, a, fail), a}, {node(Else, fail, a), a}, {node(Else, a, fail), a},
			{node(First, node(First, a)), node(First, a)}, {node(Try, a), node(Else, a, pass)},
		} {
			one, e := run(rules, x[0], state, fuel)
			two, f := run(rules, x[1], state, fuel)
			if e != f || !slices.EqualFunc(one, two, equalSays) {
				t.Fatal(seed, i, e, f, exprText(x[0]), theoremText(state))
			}
		}
	}
}

// The first states are the same, however many are asked for, and a sequence that is stopped has yielded them.
func TestP134Random(t *testing.T) {
	thy, rules := little(), someRules()
	several := 0
	for seed := range 1500 {
		g := newGen(seed)
		e, state := g.expr(3, len(rules)), g.state()
		tac, err := Make(thy, rules, e, 60)
		if err != api.OK {
			t.Fatal(err)
		}
		states := tac(state)
		all, more, err := Run(thy, rules, e, state, 60, 6)
		if err != api.OK {
			continue
		}
		for n := range len(all) + 1 {
			i := 0
			for x := range states {
				if i == n {
					break
				}
				if !equalSays(what(x), what(all[i])) {
					t.Fatal(seed, n, i)
				}
				i++
			}
			some, left, err := Run(thy, rules, e, state, 60, n)
			if i != n || err != api.OK || len(some) != n || left != (more || n < len(all)) {
				t.Fatal(seed, n, i, err, len(some))
			}
		}
		if len(all) > 1 {
			several++
		}
	}
	if several < 25 {
		t.Error(several)
	}
}

// Rotate as often as there are subgoals, and Protect twice, change nothing.
func TestP135Random(t *testing.T) {
	thy := little()
	for seed := range 300 {
		g := newGen(seed)
		state := g.state()
		goals, _ := Subgoals(state)
		e := Expr{Kind: Pass}
		for range goals {
			e = Expr{Kind: Then, Kids: []Expr{e, {Kind: Rotate}}}
		}
		for at := range goals {
			p := Expr{Kind: Protect, At: at}
			e = Expr{Kind: Then, Kids: []Expr{e, {Kind: Then, Kids: []Expr{p, p}}}}
		}
		l, more, err := Run(thy, nil, e, state, 40, 5)
		if err != api.OK || more || len(l) != 1 || !equalSays(what(l[0]), what(state)) || !taken(l[0]) {
			t.Fatal(seed, err, len(l), theoremText(state))
		}
	}
}
