package tactic

import (
	"fmt"
	"slices"
	"strings"
	"testing"

	"triforium/api"
	"triforium/derive"
	"triforium/kernel"
	"triforium/sort"
	"triforium/term"
	"triforium/theory"
	"triforium/types"
)

func by(s string) kernel.Theorem { return stated(kinds, s) }

func node(kind int, l ...Expr) Expr { return Expr{Kind: kind, Kids: l} }

func rule(num int) Expr { return Expr{Kind: Rule, Num: num} }

func at(e Expr, n int) Expr {
	e.At = n
	return e
}

// state returns a state with subgoals, of the goal C.
func state(goals ...string) kernel.Theorem {
	s := "protect C"
	for _, g := range slices.Backward(goals) {
		s = "(" + g + ") ==> " + s
	}
	return by(s)
}

// states writes the subgoals of all states that an expression makes.
func states(rules []kernel.Theorem, e Expr, s kernel.Theorem) string {
	l, more, err := Run(little(), rules, e, s, 100, 20)
	if err != api.OK || more {
		return fmt.Sprint("error ", err, more)
	}
	var out []string
	for _, t := range l {
		if !taken(t) {
			return "not taken"
		}
		goals, _ := Subgoals(t)
		var one []string
		for _, g := range goals {
			one = append(one, brief(g))
		}
		out = append(out, "["+strings.Join(one, ", ")+"]")
	}
	return strings.Join(out, " ")
}

func TestP131Goal(t *testing.T) {
	thy := little()
	g, e := Goal(thy, of(kinds, "p a ==> A"))
	if e != api.OK || theoremText(g) != "(p a ==> A) ==> protect (p a ==> A)" || !taken(g) || len(g.Hyps()) != 0 {
		t.Error(e, theoremText(g))
	}
	goals, e := Subgoals(g)
	if e != api.OK || len(goals) != 1 || brief(goals[0]) != "p a ==> A" {
		t.Error(e, goals)
	}
	if goals, e := Subgoals(by("protect A")); e != api.OK || len(goals) != 0 {
		t.Error(e)
	}
	c, e := Conclude(by("A; B |- protect (p ?x ==> A)"))
	if e != api.OK || theoremText(c) != "A; B |- p ?x.0 ==> A" || !taken(c) || !slices.Equal(c.Oracles(), []string{"orc"}) {
		t.Error(e, theoremText(c))
	}
	for i, x := range []struct {
		state    kernel.Theorem
		sub, con api.Errno
	}{
		{kernel.Theorem{}, kernel.ErrNone, kernel.ErrNone}, {by("A"), ErrGoal, ErrGoal}, {by("A ==> protect A"), api.OK, ErrGoal}, {by("protect A ==> A"), ErrGoal, ErrGoal}, {by("protect (protect A)"), api.OK, api.OK}, {by("!!k:N. protect A"), ErrGoal, ErrGoal},
	} {
		_, e := Subgoals(x.state)
		c, f := Conclude(x.state)
		if e != x.sub || f != x.con || c.Is() != (f == api.OK) {
			t.Error(i, e, f)
		}
	}
	bad := thy
	bad.Name = ""
	for i, x := range []struct {
		thy  api.Theory
		prop api.Term
		e    api.Errno
	}{{bad, api.Term{}, api.ErrForm}, {thy, api.Term{}, api.ErrForm}, {thy, of(kinds, "a"), api.ErrType}, {thy, api.Term{Op: api.Bound}, term.ErrLoose}, {thy, of(kinds, "?P"), api.OK}} {
		if g, e := Goal(x.thy, x.prop); e != x.e || g.Is() != (e == api.OK) {
			t.Error(i, e)
		}
	}
	tower := func(n int) string { return "p " + strings.Repeat("(s ", n) + "z" + strings.Repeat(")", n) }
	wide := func(n int) string { return strings.Repeat("And (", n) + "A" + strings.Repeat(") A", n) }
	for n, want := range map[int]api.Errno{496: api.OK, 497: api.ErrLarge} { // n + 4 within each other
		if g, e := Goal(thy, of(kinds, tower(n))); e != want || g.Is() != (e == api.OK) {
			t.Error(n, e)
		}
	}
	half := of(kinds, wide(160)) // 641 nodes, 15 of them 9657: A ==> protect A has 2 n + 5
	all := half
	for range 14 {
		all = term.Apps(of(kinds, "And"), []api.Term{half, all})
	}
	for n, want := range map[int]api.Errno{9997: api.OK, 10001: api.ErrLarge} {
		x := all
		for size, _ := term.Size(x); size < n; size, _ = term.Size(x) {
			x = term.Apps(of(kinds, "And"), []api.Term{of(kinds, "A"), x})
		}
		if size, _ := term.Size(x); size != n {
			t.Fatal(size)
		}
		if _, e := Goal(thy, x); e != want {
			t.Error(n, e)
		}
	}
}

func TestP131Form(t *testing.T) {
	deep := func(n int, e Expr) Expr {
		for range n {
			e = node(Try, e)
		}
		return e
	}
	var wide func(n int) Expr // 2 n + 1 nodes
	wide = func(n int) Expr {
		if n == 0 {
			return node(Pass)
		}
		return node(Or, wide((n-1)/2), wide(n-1-(n-1)/2))
	}
	a := of(kinds, "A")
	for i, x := range []struct {
		e     Expr
		rules int
		want  api.Errno
	}{
		{node(Pass), 0, api.OK}, {Expr{}, 0, api.ErrForm}, {Expr{Kind: 19}, 0, api.ErrForm}, {Expr{Kind: -1}, 0, api.ErrForm},
		{wide(49), 0, api.OK}, {node(Try, wide(49)), 0, api.OK}, {node(Try, node(Try, wide(49))), 0, api.ErrCount}, {wide(50), 0, api.ErrCount}, {deep(19, node(Pass)), 0, api.OK}, {deep(20, node(Pass)), 0, api.ErrDepth}, {deep(200, node(Pass)), 0, api.ErrCount}, {deep(20, Expr{}), 0, api.ErrDepth},
		{node(Pass, node(Pass)), 0, api.ErrForm}, {node(Then, node(Pass)), 0, api.ErrForm}, {node(Then), 0, api.ErrForm}, {node(Then, node(Pass), node(Pass), node(Pass)), 0, api.ErrForm}, {node(Try), 0, api.ErrForm}, {node(Each, node(Pass), node(Pass)), 0, api.ErrForm}, {node(Rule, node(Pass)), 1, api.ErrForm},
		{Expr{Kind: Pass, At: 1}, 0, api.ErrForm}, {Expr{Kind: Fail, Num: 1}, 0, api.ErrForm}, {Expr{Kind: Pass, Prop: a}, 0, api.ErrForm}, {Expr{Kind: Rule, Prop: a}, 1, api.ErrForm}, {Expr{Kind: Assume, Num: 1}, 3, api.ErrForm}, {Expr{Kind: Cut, Num: 1, Prop: a}, 3, api.ErrForm}, {Expr{Kind: First, At: -1, Kids: []Expr{node(Pass)}}, 0, api.ErrForm},
		{Expr{Kind: Pass, Prop: api.Term{Kids: []api.Term{}, Type: api.Type{Sort: []string{}, Args: []api.Type{}}}, Kids: []Expr{}}, 0, api.OK}, {Expr{Kind: Pass, Prop: api.Term{Type: api.Type{Index: 1}}}, 0, api.ErrForm}, {Expr{Kind: Pass, Prop: api.Term{Kids: []api.Term{{}}}}, 0, api.ErrForm},
		{rule(0), 0, api.ErrRange}, {rule(0), 1, api.OK}, {rule(1), 1, api.ErrRange}, {rule(-1), 1, api.ErrRange}, {rule(0), -5, api.ErrRange}, {Expr{Kind: Unfold, Num: 3}, 3, api.ErrRange}, {Expr{Kind: Erule, Num: 2}, 3, api.OK}, {Expr{Kind: Drule, Num: 2, At: 100}, 3, api.OK}, {Expr{Kind: Drule, Num: 2, At: 101}, 3, api.ErrRange}, {Expr{Kind: Assume, At: -1}, 3, api.ErrRange}, {Expr{Kind: Protect, At: 100}, 0, api.OK}, {Expr{Kind: Rotate, At: 101}, 0, api.ErrRange}, {Expr{Kind: Cut, At: 101}, 0, api.ErrRange}, {Expr{Kind: Cut}, 0, api.OK},
		{node(Then, rule(7), Expr{}), 1, api.ErrRange}, {node(Then, Expr{}, rule(7)), 1, api.ErrForm}, {Expr{Kind: Then, At: 1, Kids: []Expr{rule(7), rule(7)}}, 1, api.ErrForm},
	} {
		if e := Form(x.e, x.rules); e != x.want {
			t.Error(i, e, x.want)
		}
	}
}

func TestP131Basic(t *testing.T) {
	rules := []kernel.Theorem{by("?P ==> ?Q ==> And ?P ?Q"), by("And ?P ?Q ==> (?P ==> ?Q ==> ?R) ==> ?R"), by("All ?F ==> ?F ?x"), equation("a", "s b", ""), equation("$n", "z", ""), by("A"), equation("s a", "a", ""), equation("p", "%k:N. q (s k)", "")}
	unfold := func(n int) Expr { return Expr{Kind: Unfold, Num: n} }
	cut := func(s string) Expr { return Expr{Kind: Cut, Prop: of(kinds, s)} }
	for i, x := range []struct {
		e    Expr
		s    kernel.Theorem
		want string
	}{
		{rule(0), state("And A B", "C"), "[A, B, C]"}, {at(rule(0), 1), state("And A B", "C"), ""}, {at(rule(0), 1), state("C", "And A B"), "[C, A, B]"}, {at(rule(0), 2), state("C", "And A B"), ""}, {rule(0), state(), ""}, {rule(2), state("r a b"), "[All (%x:nat. r a b)] [All (%x:nat. r a #0)] [All (%x:nat. r #0 b)]"},
		{Expr{Kind: Erule, Num: 1}, state("A ==> And A B ==> C"), "[A ==> A ==> B ==> C]"}, {Expr{Kind: Drule, Num: 2}, state("All p ==> C"), "[p ?x.0 ==> C]"},
		{Expr{Kind: Assume}, state("A ==> A", "B"), "[B]"}, {Expr{Kind: Assume, At: 1}, state("B", "A ==> A"), "[B]"}, {Expr{Kind: Assume}, state("A ==> B"), ""}, {Expr{Kind: Assume}, state("p ?x ==> p a ==> p ?x"), "[] []"},
		{Expr{Kind: Rotate}, state("A", "B", "C"), "[B, C, A]"}, {Expr{Kind: Rotate, At: 1}, state("A", "B", "C"), "[A, C, B]"}, {Expr{Kind: Rotate, At: 2}, state("A", "B", "C"), "[A, B, C]"}, {Expr{Kind: Rotate, At: 3}, state("A", "B", "C"), ""}, {Expr{Kind: Rotate}, state("A"), "[A]"}, {Expr{Kind: Rotate}, state(), ""},
		{Expr{Kind: Protect}, state("A ==> B", "C"), "[protect (A ==> B), C]"}, {Expr{Kind: Protect, At: 1}, state("A", "protect B"), "[A, B]"}, {Expr{Kind: Protect}, state("protect (protect B)"), "[protect B]"}, {Expr{Kind: Protect}, state(), ""}, {node(Then, Expr{Kind: Protect}, Expr{Kind: Assume}), state("A ==> A"), ""},
		{unfold(3), state("r a b ==> p a", "p a"), "[r (s b) b ==> p (s b), p a]"}, {at(unfold(3), 1), state("p b", "p a"), "[p b, p (s b)]"}, {unfold(3), state("p b"), ""}, {unfold(4), state("!!v:N. r $n v"), "[!!v:nat. r z #0]"}, {unfold(4), state("!!v:N. r v v"), ""}, {unfold(5), state("A"), ""}, {unfold(6), state("p (s a)"), ""}, {unfold(7), state("p a"), "[(%k:nat. q (s #0)) a]"}, {unfold(7), state("All p"), "[All (%k:nat. q (s #0))]"},
		{cut("p b"), state("A", "B"), "[p b, p b ==> A, B]"}, {at(cut("p b"), 1), state("A", "B"), "[A, p b, p b ==> B]"}, {cut("?P"), state("A"), "[?P.0, ?P.0 ==> A]"}, {cut("a"), state("A"), ""}, {Expr{Kind: Cut}, state("A"), ""}, {Expr{Kind: Cut, Prop: of("$n: P", "$n")}, state("p $n"), ""}, {Expr{Kind: Cut, Prop: of("$n: P", "$n")}, state("p a"), "[$n, $n ==> p a]"}, {cut("A"), state(), ""},
	} {
		if got := states(rules, x.e, x.s); got != x.want {
			t.Error(i, got)
		}
	}
	// a constant counts at its type alone
	k := "nil: LN; nil': L?a; e: LN>LN>P; e': L?a>L?a>P"
	thy, err := theory.Extend(little(), "Lists", api.Theory{Consts: []api.ConstDecl{{Name: "nil", Type: typ("L?a")}, {Name: "m", Type: typ("LN")}}})
	if err != api.OK {
		t.Fatal(err)
	}
	eq, _ := term.Eq(of(k, "nil"), api.Term{Op: api.Const, Name: "m", Type: typ("LN")})
	th := derive.Must(kernel.Oracle(thy, "orc", eq))
	goal := derive.Must(kernel.Oracle(thy, "orc", term.Imp(term.Imp(of(k, "e nil nil"), of(k, "e' nil' nil'")), term.Protect(of(k, "C")))))
	l, _, err := Run(thy, []kernel.Theorem{th}, unfold(0), goal, 5, 5)
	if err != api.OK || len(l) != 1 || theoremText(l[0]) != "(e m m ==> e nil nil) ==> protect C" || !taken(l[0]) {
		t.Error(err, len(l))
	}
}

// Hypotheses stay, also those that are subgoals; those of rules are added.
func TestP131Hypotheses(t *testing.T) {
	rules := []kernel.Theorem{equation("a", "b", "B"), equation("a", "b", "p b"), equation("a", "b", "p a"), by("A |- B ==> C")}
	cut := Expr{Kind: Cut, Prop: of(kinds, "A")}
	for i, x := range []struct {
		e    Expr
		s    string
		want string
	}{
		{Expr{Kind: Rotate}, "A; B |- A ==> B ==> protect A", "A; B |- B ==> A ==> protect A"}, {Expr{Kind: Protect}, "A; protect A |- A ==> protect A", "A; protect A |- protect A ==> protect A"}, {Expr{Kind: Protect}, "A; protect A |- protect A ==> protect A", "A; protect A |- A ==> protect A"},
		{cut, "A; A ==> B |- B ==> protect A", "A; A ==> B |- A ==> (A ==> B) ==> protect A"}, {Expr{Kind: Unfold}, "A |- p a ==> protect A", "A; B |- p b ==> protect A"}, {Expr{Kind: Unfold, Num: 1}, "A |- p a ==> protect A", "A; p b |- p b ==> protect A"}, {Expr{Kind: Unfold, Num: 2}, "A |- p a ==> protect A", "A; p a |- p b ==> protect A"},
		{rule(3), "B |- C ==> protect A", "A; B |- B ==> protect A"}, {at(Expr{Kind: Unfold, Num: 1}, 1), "p b ==> p a ==> protect A", "p b |- p b ==> p b ==> protect A"},
	} {
		l, _, err := Run(little(), rules, x.e, by(x.s), 5, 5)
		if err != api.OK || len(l) != 1 || !taken(l[0]) {
			t.Fatal(i, err, len(l))
		}
		sorted := func(s string) string {
			h, p, _ := strings.Cut(s, " |- ")
			parts := strings.Split(h, "; ")
			slices.Sort(parts)
			return strings.Join(parts, "; ") + " |- " + p
		}
		if sorted(theoremText(l[0])) != sorted(x.want) {
			t.Error(i, theoremText(l[0]))
		}
	}
}

func TestP131Tacticals(t *testing.T) {
	rules := []kernel.Theorem{by("?P ==> ?Q ==> And ?P ?Q"), by("A"), by("All ?F ==> ?F ?x"), by("B")}
	conj, a, spec, b := rule(0), rule(1), rule(2), rule(3)
	pass, fail, assume := node(Pass), node(Fail), Expr{Kind: Assume}
	for i, x := range []struct {
		e    Expr
		s    kernel.Theorem
		want string
	}{
		{pass, state("A"), "[A]"}, {fail, state("A"), ""}, {pass, state(), "[]"}, {node(Then, conj, a), state("And A B"), "[B]"}, {node(Then, conj, at(b, 1)), state("And A B"), "[A]"}, {node(Then, conj, conj), state("And A B"), ""}, {node(Or, conj, pass), state("And A B"), "[A, B] [And A B]"}, {node(Else, conj, pass), state("And A B"), "[A, B]"}, {node(Else, a, pass), state("And A B"), "[And A B]"}, {node(Else, a, fail), state("And A B"), ""},
		{node(Try, conj), state("And A B"), "[A, B]"}, {node(Try, a), state("And A B"), "[And A B]"}, {node(Try, fail), state(), "[]"}, {node(Repeat, conj), state("And (And A B) C"), "[A, B, C]"}, {node(Repeat, conj), state("And A (And B C)"), "[A, And B C]"}, {node(Repeat, node(Else, conj, a)), state("And (And A A) A"), "[]"}, {node(Repeat, fail), state("A"), "[A]"},
		{node(First, spec), state("r a b"), "[All (%x:nat. r a b)]"}, {node(First, fail), state("A"), ""}, {node(First, node(Or, pass, conj)), state("And A B"), "[And A B]"}, {node(Then, node(First, spec), node(First, node(Or, fail, pass))), state("r a b"), "[All (%x:nat. r a b)]"},
		{node(Solve, a), state("A", "B"), "[B]"}, {node(Solve, conj), state("And A B"), ""}, {node(Solve, pass), state("A"), ""}, {node(Solve, node(Or, pass, node(Or, a, at(a, 1)))), state("A", "A"), "[A] [A]"}, {node(Solve, node(Repeat, node(Else, conj, a))), state("And A A", "B"), "[B]"},
		// each subgoal on its own, from the last one on
		{node(Each, node(Try, conj)), state("And A B", "C", "And B A"), "[A, B, C, B, A]"}, {node(Each, conj), state("And A B", "C"), ""}, {node(Each, pass), state("A", "B"), "[A, B]"}, {node(Each, fail), state(), "[]"}, {node(Each, node(Then, conj, at(a, 1))), state("And B A", "And C A"), "[B, C]"}, {node(Each, node(Try, node(Then, conj, at(a, 2)))), state("And B C", "A"), "[And B C, A]"}, // no third one in focus
		{node(Each, Expr{Kind: Rotate}), state("A", "B"), "[A, B]"}, {node(Each, node(Then, node(Try, conj), Expr{Kind: Rotate})), state("And A B", "And B C"), "[B, A, C, B]"}, {node(Each, spec), state("p a", "p b"), "[All (%x:nat. p a), All (%x:nat. p b)] [All (%x:nat. p #0), All (%x:nat. p b)] [All (%x:nat. p a), All (%x:nat. p #0)] [All (%x:nat. p #0), All (%x:nat. p #0)]"},
		{node(Then, node(Each, node(Try, conj)), at(a, 3)), state("And A B", "And B A"), "[A, B, B]"}, {node(Each, node(Repeat, node(Else, conj, node(Else, a, assume)))), state("A ==> And A A", "And A (And A A)"), "[]"}, {node(Each, node(Each, node(Each, node(Try, a)))), state("A", "B", "A"), "[B]"},
		{node(Then, node(Solve, a), at(b, 1)), state("A", "A", "B"), "[A]"}, // the focus is less by one
		{node(Each, node(Solve, node(Then, conj, node(Each, node(Try, a))))), state("And A A"), "[]"},
	} {
		if got := states(rules, x.e, x.s); got != x.want {
			t.Error(i, got)
		}
	}
}

func TestP131Fuel(t *testing.T) {
	thy := little()
	rules := []kernel.Theorem{by("?P ==> ?P"), by("?P ==> ?Q ==> And ?P ?Q"), by("All ?F ==> ?F ?x")}
	pass, fail, one := node(Pass), node(Fail), rule(0)
	for i, x := range []struct {
		e     Expr
		s     kernel.Theorem
		most  int
		steps int // that it takes
	}{
		{pass, state("A"), 5, 0}, {fail, state("A"), 5, 0}, {one, state("A"), 5, 1}, {at(one, 7), state("A"), 5, 1}, {Expr{Kind: Rotate}, state(), 5, 1}, {Expr{Kind: Assume}, state("A"), 5, 1}, {Expr{Kind: Cut}, state("A"), 5, 1}, {Expr{Kind: Protect}, state("A"), 5, 1}, {node(Then, one, one), state("A"), 5, 2}, {node(Or, one, one), state("A"), 5, 2}, {node(Or, one, one), state("A"), 1, 2}, {node(Or, pass, one), state("A"), 0, 0}, {node(Or, one, one), state("A"), 0, 1}, {node(Or, pass, node(Or, one, one)), state("A"), 1, 1},
		{node(Else, one, one), state("A"), 5, 1}, {node(Else, fail, one), state("A"), 5, 1}, {node(Else, rule(1), one), state("A"), 5, 2}, {node(Try, rule(1)), state("A"), 5, 1}, {node(First, node(Or, pass, one)), state("A"), 5, 0}, {node(First, node(Or, one, one)), state("A"), 5, 1}, {node(Repeat, fail), state("A"), 5, 1}, {node(Repeat, rule(1)), state("And (And A B) C"), 5, 6}, {node(Repeat, rule(1)), state("A"), 5, 2},
		{node(Each, one), state("A", "B", "C"), 5, 3}, {node(Each, one), state(), 5, 0}, {node(Solve, node(Or, one, one)), state("A"), 5, 2}, {node(Then, node(Or, fail, pass), one), state("A"), 5, 1}, {node(Then, rule(2), one), state("p a"), 5, 3}, {node(Then, rule(2), one), state("p a"), 1, 3}, {node(Then, rule(2), one), state("p a"), 0, 2}, {node(First, node(Then, rule(2), one)), state("p a"), 5, 2},
	} {
		_, _, e := Run(thy, rules, x.e, x.s, x.steps, x.most)
		if e != api.OK {
			t.Error(i, "with the steps", e)
		}
		if x.steps > 0 {
			l, more, e := Run(thy, rules, x.e, x.s, x.steps-1, x.most)
			if e != api.ErrFuel || l != nil || more {
				t.Error(i, "with fewer", e)
			}
		}
	}
	// it goes on until it is used up
	if _, _, e := Run(thy, rules, node(Repeat, one), state("A"), MaxFuel, 1); e != api.ErrFuel {
		t.Error(e)
	}
	if _, _, e := Run(thy, rules, node(Repeat, pass), state("A"), 10, 0); e != api.ErrFuel {
		t.Error(e)
	}
	// a tactic yields what it finds until then, and has the whole fuel each time
	tac, e := Make(thy, rules, node(Or, one, node(Or, one, one)), 2)
	if e != api.OK {
		t.Fatal(e)
	}
	for range 2 {
		states := tac(state("A"))
		for range 2 {
			n := 0
			for range states {
				n++
			}
			if n != 2 {
				t.Error(n)
			}
		}
	}
}

// States that are too large are left out.
func TestP131Limits(t *testing.T) {
	thy := little()
	rules := []kernel.Theorem{by("?P ==> ?Q ==> And ?P ?Q"), by("?P ==> ?P"), equation("a", "s a", "")}
	many := slices.Repeat([]string{"A"}, 48)
	for i, x := range []struct {
		e    Expr
		more []string
		want int
	}{
		{rule(0), []string{"And A A"}, 1}, {rule(0), []string{"And A A", "A"}, 0}, {rule(1), []string{"A", "A"}, 1}, {rule(1), []string{"A", "A", "A"}, 0}, {node(Pass), []string{"A", "A", "A"}, 1}, {node(Try, rule(1)), []string{"A", "A", "A"}, 1}, {Expr{Kind: Rotate, At: 50}, []string{"A", "A", "A"}, 0},
	} {
		l, _, e := Run(thy, rules, x.e, state(slices.Concat(x.more, many)...), 20, 5)
		if e != api.OK || len(l) != x.want {
			t.Error(i, e, len(l))
		}
	}
	tower := func(n int) string { return "p " + strings.Repeat("(s ", n) + "a" + strings.Repeat(")", n) }
	for n, want := range map[int]int{95: 1, 96: 0} { // n + 2, 2 of the ==>, and one more of s
		l, _, e := Run(thy, rules, Expr{Kind: Unfold, Num: 2}, state(tower(n)), 5, 5)
		if _, depth := term.Size(state(tower(n)).Prop()); e != api.OK || len(l) != want || depth != n+4 {
			t.Error(n, e, len(l), depth)
		}
	}
	wide := func(n int) string { // 4 n + 1 nodes
		l := slices.Repeat([]string{"A"}, n+1)
		for len(l) > 1 {
			var next []string
			for i := 0; i+1 < len(l); i += 2 {
				next = append(next, "(And "+l[i]+" "+l[i+1]+")")
			}
			if len(l)%2 == 1 {
				next = append(next, l[len(l)-1])
			}
			l = next
		}
		return l[0]
	}
	for n, want := range map[int]int{497: 1, 498: 0} { // 4 n + 1, 3 + 1 of the ==> and 3 of both protects: 4 n + 9
		l, _, e := Run(thy, nil, Expr{Kind: Protect}, state(wide(n)), 5, 5)
		if e != api.OK || len(l) != want {
			t.Error(n, e, len(l))
		}
	}
	for n, want := range map[int]int{100: 1, 101: 0} {
		s := state("A", "B")
		for i := range n {
			h := term.Apps(of(kinds, "p"), []api.Term{{Op: api.Free, Name: fmt.Sprint("n", i), Type: typ("N")}})
			s = derive.Must(kernel.ImpElim(derive.Must(kernel.ImpIntro(h, s)), derive.Must(kernel.Assume(thy, h))))
		}
		l, _, e := Run(thy, nil, Expr{Kind: Rotate}, s, 5, 5)
		if e != api.OK || len(l) != want {
			t.Error(n, e, len(l))
		}
	}
}

func TestP131Errors(t *testing.T) {
	thy := little()
	bad := thy
	bad.Name = ""
	more, _ := theory.Extend(thy, "More", api.Theory{Consts: []api.ConstDecl{{Name: "c1", Type: types.Prop()}}})
	moved := derive.Must(kernel.Transfer(more, by("A")))
	goal, movedGoal := state("A"), derive.Must(kernel.Transfer(more, state("A")))
	rules := []kernel.Theorem{by("A")}
	none := kernel.Theorem{}
	sorts := thy
	sorts.Classes = []api.Class{{Name: "1"}}
	for i, x := range []struct {
		thy   api.Theory
		rules []kernel.Theorem
		e     Expr
		state kernel.Theorem
		fuel  int
		most  int
		want  api.Errno
		make  api.Errno
	}{
		{thy, rules, rule(0), goal, 5, 5, api.OK, api.OK}, {thy, nil, node(Pass), goal, 0, 0, api.OK, api.OK}, {thy, slices.Repeat(rules, 50), rule(49), goal, 500, 100, api.OK, api.OK},
		{bad, slices.Repeat(rules, 51), Expr{}, none, -1, -1, api.ErrForm, api.ErrForm}, {sorts, nil, Expr{}, none, -1, -1, sort.ErrName, sort.ErrName}, {thy, slices.Repeat([]kernel.Theorem{none}, 51), Expr{}, none, -1, -1, api.ErrCount, api.ErrCount}, {thy, []kernel.Theorem{by("A"), none, moved}, Expr{}, none, -1, -1, kernel.ErrNone, kernel.ErrNone}, {thy, []kernel.Theorem{moved, none}, Expr{}, none, -1, -1, api.ErrTheory, api.ErrTheory},
		{thy, rules, Expr{}, none, -1, -1, api.ErrForm, api.ErrForm}, {thy, rules, rule(1), none, -1, -1, api.ErrRange, api.ErrRange}, {thy, rules, rule(0), none, -1, -1, api.ErrRange, api.ErrRange}, {thy, rules, rule(0), none, 501, -1, api.ErrRange, api.ErrRange}, {thy, rules, rule(0), none, 500, -1, kernel.ErrNone, api.OK}, {thy, rules, rule(0), movedGoal, 5, -1, api.ErrTheory, api.OK}, {more, rules, rule(0), goal, 5, 5, api.OK, api.OK}, {more, []kernel.Theorem{moved}, rule(0), goal, 5, 5, api.OK, api.OK},
		{thy, rules, rule(0), by("A ==> B"), 5, -1, ErrGoal, api.OK}, {thy, rules, rule(0), goal, 5, -1, api.ErrRange, api.OK}, {thy, rules, rule(0), goal, 5, 101, api.ErrRange, api.OK}, {thy, rules, rule(0), goal, 0, 5, api.ErrFuel, api.OK},
	} {
		l, left, e := Run(x.thy, x.rules, x.e, x.state, x.fuel, x.most)
		if e != x.want || e != api.OK && (l != nil || left) {
			t.Error(i, e, x.want)
		}
		tac, e := Make(x.thy, x.rules, x.e, x.fuel)
		if e != x.make || (tac == nil) != (e != api.OK) {
			t.Error(i, e, x.make)
		}
		if e == api.OK && x.want != api.OK && x.want != api.ErrRange {
			for range tac(x.state) {
				t.Error(i, "a state")
			}
		}
		if _, f := Prove(x.thy, x.rules, of(kinds, "A"), x.e, x.fuel); e != api.OK && f != e {
			t.Error(i, f)
		}
	}
	// states are in the theory that is given
	l, _, _ := Run(more, rules, node(Or, node(Pass), rule(0)), goal, 5, 5)
	if len(l) != 2 || l[0].Theory().Name != "More" || l[1].Theory().Name != "More" {
		t.Error("theory")
	}
}

func TestP132Prove(t *testing.T) {
	thy := little()
	rules := []kernel.Theorem{by("A ==> B"), by("A"), by("?P ==> ?Q ==> And ?P ?Q"), by("And ?P ?Q ==> (?P ==> ?Q ==> ?R) ==> ?R"), by("Ex ?F ==> (!!x:N. ?F x ==> ?Q) ==> ?Q"), by("(!!x:N. ?F x) ==> All ?F"), by("?F ?x ==> Ex ?F"), by("All ?F ==> ?F ?y"), by("C |- A"), by("All ?F ==> ?F ?x")}
	chain := func(l ...Expr) Expr {
		e := l[0]
		for _, x := range l[1:] {
			e = node(Then, e, x)
		}
		return e
	}
	e := func(kind, num int) Expr { return Expr{Kind: kind, Num: num} }
	for i, x := range []struct {
		prop string
		e    Expr
		fuel int
		want string
		err  api.Errno
	}{
		{"B", chain(rule(0), rule(1)), 5, "B", api.OK}, {"B", rule(0), 5, "", api.ErrFail}, {"B", node(Pass), 0, "", api.ErrFail}, {"B", chain(rule(0), rule(1)), 1, "", api.ErrFuel}, {"B", chain(rule(0), rule(8)), 5, "C |- B", api.OK}, {"B", node(Or, node(Pass), chain(rule(0), rule(1))), 5, "B", api.OK},
		{"And A B ==> And B A", chain(e(Erule, 3), rule(2), Expr{Kind: Assume}, Expr{Kind: Assume}), 9, "And A B ==> And B A", api.OK}, {"A ==> A", Expr{Kind: Assume}, 1, "A ==> A", api.OK}, {"And A (And B A)", node(Repeat, node(Else, rule(2), node(Else, rule(1), rule(0)))), 90, "And A (And B A)", api.OK},
		// quantifiers: the variables of rules are others each time
		{"Ex (%v:N. All (%w:N. r v w)) ==> All (%w:N. Ex (%v:N. r v w))", chain(e(Erule, 4), rule(5), rule(6), e(Drule, 7), Expr{Kind: Assume}), 9, "Ex (%v:nat. All (%w:nat. r #1 #0)) ==> All (%w:nat. Ex (%v:nat. r #0 #1))", api.OK},
		{"Ex (%v:N. All (%w:N. r v w)) ==> All (%w:N. Ex (%v:N. r v w))", chain(e(Erule, 4), rule(5), rule(6), e(Drule, 9), Expr{Kind: Assume}), 9, "", api.ErrFail}, // the state has the ?x of the rule, at another type: an error of the two theorems
		{"All (%v:N. Ex (%w:N. r v w)) ==> Ex (%w:N. All (%v:N. r v w))", chain(rule(6), rule(5), e(Drule, 7), e(Erule, 4), Expr{Kind: Assume}), 9, "", api.ErrFail},
		{"p ?x ==> p a", Expr{Kind: Assume}, 3, "p a ==> p a", api.OK}, {"?P", rule(1), 3, "A", api.OK}, // an instance
		{"a", node(Pass), 0, "", api.ErrType},
	} {
		th, err := Prove(thy, rules, of(kinds, x.prop), x.e, x.fuel)
		got := ""
		if err == api.OK {
			got = theoremText(th)
			if !taken(th) {
				t.Error(i, "not taken")
			}
		}
		if got != x.want || err != x.err || th.Is() != (err == api.OK) {
			t.Error(i, got, err)
		}
	}
	th, _ := Prove(thy, rules, of(kinds, "A ==> A"), Expr{Kind: Assume}, 5)
	if len(th.Oracles()) != 0 {
		t.Error("oracles of rules that are not used")
	}
}

// As many steps as there may be: the proof stays within the kernel's limits.
func TestP132ManySteps(t *testing.T) {
	thy := little()
	rules := []kernel.Theorem{by("?P ==> ?P")}
	goals := slices.Repeat([]string{"p a ==> q b ==> And A B"}, MaxGoals)
	last := at(rule(0), MaxGoals-1)
	x := last
	for range 4 { // 16 steps each time
		x = node(Then, x, x)
	}
	s := state(goals...)
	for range 31 {
		l, _, e := Run(thy, rules, x, s, MaxFuel, 1)
		if e != api.OK || len(l) != 1 {
			t.Fatal(e, len(l))
		}
		s = l[0]
	}
	if !taken(s) {
		t.Error("not taken")
	}
}

// A panic of who asks for states goes through.
func TestP131Panic(t *testing.T) {
	tac, _ := Make(little(), nil, node(Pass), 5)
	defer func() {
		if r := recover(); r != "mine" {
			t.Error(r)
		}
	}()
	for range tac(state("A")) {
		panic("mine")
	}
}

// A tactic keeps nothing of the expression; results share no memory.
func TestP131NewMemory(t *testing.T) {
	e := node(Then, Expr{Kind: Cut, Prop: of(kinds, "p b")}, node(Pass))
	rules := []kernel.Theorem{by("A")}
	tac, _ := Make(little(), rules, e, 5)
	e.Kids[0].Kind, e.Kids[0].Prop.Kids[1].Name = Fail, "spoilt"
	rules[0] = kernel.Theorem{}
	n := 0
	for s := range tac(state("A")) {
		goals, _ := Subgoals(s)
		if brief(goals[0]) != "p b" {
			t.Error(brief(goals[0]))
		}
		goals[0].Kids[0].Name = "spoilt"
		if again, _ := Subgoals(s); brief(again[0]) != "p b" {
			t.Error("shared")
		}
		n++
	}
	if n != 1 {
		t.Error(n)
	}
}
