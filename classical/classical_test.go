package classical

import (
	"math/rand"
	"slices"
	"strings"
	"sync"
	"testing"

	"triforium/api"
	"triforium/hol"
	"triforium/kernel"
	"triforium/resolve"
	"triforium/tactic"
	"triforium/term"
	"triforium/testlang"
	"triforium/theory"
)

var small = sync.OnceValue(func() api.Theory {
	return testlang.Theory(hol.HOL(), "t", "p : t => bool; q : t => bool; r : t => t => bool; c : t; d : t; f : t => t",
		"p_c : |- p c; p_q : |- p ?x ==> |- q ?x; p_f : |- p ?x ==> |- p (f ?x); plain : |- q d; loop : |- p (f ?x) ==> |- p ?x")
})

func read(s string) api.Term { return testlang.Term(small(), s) }

func fact(name string) kernel.Theorem { return testlang.Axiom(small(), name) }

var standard = sync.OnceValue(func() []Rule {
	l, e := Standard(small())
	if e != api.OK {
		panic(e)
	}
	return l
})

func state(s string) kernel.Theorem {
	t, e := tactic.Goal(small(), read(s))
	if e != api.OK {
		panic(e)
	}
	return t
}

func TestP221Standard(t *testing.T) {
	want := []struct {
		kind int
		safe bool
		prop string
	}{
		{Intro, true, "|- True"}, {Intro, true, "|- ?P ==> |- ?Q ==> |- (?P & ?Q)"}, {Intro, true, "(|- ?P ==> |- ?Q) ==> |- (?P --> ?Q)"}, {Intro, true, "(|- ?P ==> |- False) ==> |- ~ ?P"}, {Intro, true, "(!!(x::?'a). |- ?P x) ==> |- All ?P"},
		{Elim, true, "|- False ==> |- ?P"}, {Elim, true, "|- (?P & ?Q) ==> (|- ?P ==> |- ?Q ==> |- ?R) ==> |- ?R"}, {Elim, true, "|- (?P | ?Q) ==> (|- ?P ==> |- ?R) ==> (|- ?Q ==> |- ?R) ==> |- ?R"}, {Elim, true, "|- Ex ?P ==> (!!(x::?'a). |- ?P x ==> |- ?Q) ==> |- ?Q"},
		{Dest, true, "|- ~ ~ ?P ==> |- ?P"}, {Dest, true, "|- ~ (?P & ?Q) ==> |- (~ ?P | ~ ?Q)"}, {Dest, true, "|- ~ (?P | ?Q) ==> |- (~ ?P & ~ ?Q)"}, {Dest, true, "|- ~ (?P --> ?Q) ==> |- (?P & ~ ?Q)"}, {Dest, true, "|- (?P --> ?Q) ==> |- (~ ?P | ?Q)"}, {Dest, true, "|- ~ All ?P ==> |- (EX (x::?'a). ~ ?P x)"}, {Dest, true, "|- ~ Ex ?P ==> |- (ALL (x::?'a). ~ ?P x)"}, {Dest, true, "|- ~ True ==> |- False"},
		{Elim, false, "|- ~ ?P ==> |- ?P ==> |- ?Q"}, {Intro, false, "|- ?P ==> |- (?P | ?Q)"}, {Intro, false, "|- ?Q ==> |- (?P | ?Q)"}, {Intro, false, "|- ?P (?x::?'a) ==> |- Ex ?P"}, {Elim, false, "|- All ?P ==> (|- ?P (?x::?'a) ==> |- ?R) ==> |- ?R"},
	}
	l := standard()
	if len(l) != len(want) {
		t.Fatal(len(l))
	}
	for i, w := range want {
		r := l[i]
		if r.Kind != w.kind || r.Safe != w.safe || !term.Equal(r.Theorem.Prop(), read(w.prop)) || len(r.Theorem.Hyps()) > 0 || testlang.Fault(r.Theorem) != "" || r.Theorem.Theory().Name != "T" {
			t.Error(i, testlang.Sequent(r.Theorem), "not", w.prop)
		}
	}
	if _, e := Standard(theory.Pure()); e != api.ErrTheory {
		t.Error(e)
	}
	if l, e := Standard(api.Theory{}); e != theory.Check(api.Theory{}) || l != nil {
		t.Error(e)
	}
}

func TestP221Check(t *testing.T) {
	fine := Rule{fact("p_q"), Intro, true}
	for i, c := range []struct {
		l    []Rule
		want api.Errno
	}{
		{nil, api.OK}, {slices.Repeat([]Rule{fine}, 100), api.OK}, {slices.Repeat([]Rule{{}}, 101), api.ErrCount}, {[]Rule{fine, {Kind: 9}}, kernel.ErrNone}, {[]Rule{{fact("p_q"), 0, true}}, api.ErrArgument}, {[]Rule{{fact("p_q"), 4, true}}, api.ErrArgument}, {[]Rule{{fact("p_q"), -1, true}}, api.ErrArgument},
		{[]Rule{{fact("plain"), Intro, false}}, api.OK}, {[]Rule{{fact("plain"), Elim, false}}, ErrRule}, {[]Rule{{fact("plain"), Dest, true}, {}}, ErrRule}, {[]Rule{{fact("p_q"), Dest, true}, {}}, kernel.ErrNone},
	} {
		if e := Check(c.l); e != c.want {
			t.Error(i, e, "not", c.want)
		}
	}
}

func TestP221Safe(t *testing.T) {
	for i, c := range []struct {
		goal, want string
		made       int
	}{
		{"|- p c ==> |- p c", "", 1}, {"|- (p c & q c)", "|- p c; |- q c", 1}, {"|- (p c & q c --> q c & p c)", "", 6}, {"|- p c", "|- p c", 0}, {"|- (p c | q c)", "|- (p c | q c)", 0}, {"|- (p c | q c) ==> |- p d", "|- p c ==> |- p d; |- q c ==> |- p d", 1},
		{"|- (ALL x. p x & True)", "!!x. |- p x", 3}, {"|- (EX x. p x) ==> |- q d", "!!x. |- p x ==> |- q d", 1}, {"|- ~ (p c --> q c) ==> |- r c d", "|- p c ==> |- ~ q c ==> |- r c d", 2}, {"|- ~ p c", "|- p c ==> |- False", 1}, {"p c == p c", "p c == p c", 0},
		{"|- (p c --> (q c & r c c)) ==> |- p d", "|- ~ p c ==> |- p d; |- q c ==> |- r c c ==> |- p d", 3},
	} {
		th, n, e := Safe(standard(), state(c.goal), 0, MaxSteps)
		if e != api.OK || n != c.made || testlang.Fault(th) != "" {
			t.Error(i, c.goal, e, n, testlang.Sequent(th))
			continue
		}
		got, _ := term.Strip(th.Prop())
		if !slices.EqualFunc(got, testlang.Terms(small(), c.want), term.Equal) {
			t.Error(i, c.goal, testlang.Sequent(th))
		}
	}
	// other subgoals stay
	two, _, e := Safe(standard(), state("|- (p c & (q c & True))"), 0, MaxSteps)
	if e != api.OK {
		t.Fatal(e)
	}
	both, _, _ := Safe(nil, two, 1, 9)
	if !term.Equal(both.Prop(), two.Prop()) {
		t.Error("without rules")
	}
	cut, _, _ := tactic.Run(small(), nil, tactic.Expr{Kind: tactic.Cut, Prop: read("|- (p d & q d)")}, state("|- (p c & True)"), 5, 1)
	for at, want := range []string{"|- p d; |- q d; |- (p d & q d) ==> |- (p c & True)", "|- (p d & q d); |- p d ==> |- q d ==> |- p c"} {
		th, _, e := Safe(standard(), cut[0], at, MaxSteps)
		if got, _ := term.Strip(th.Prop()); e != api.OK || !slices.EqualFunc(got, testlang.Terms(small(), want), term.Equal) {
			t.Error(at, testlang.Sequent(th))
		}
	}
}

func TestP221SafeErrors(t *testing.T) {
	s := state("|- (p c & q c)")
	bad := []Rule{{}}
	higher := testlang.Theory(small(), "u", "z : u", "z_z : z == z")
	stranger := []Rule{{testlang.Axiom(higher, "z_z"), 7, true}}
	for i, c := range []struct {
		l                []Rule
		state            kernel.Theorem
		at, steps, depth int
		want             api.Errno
	}{
		{bad, kernel.Theorem{}, -1, -1, -1, kernel.ErrNone}, {slices.Repeat(bad, 101), s, -1, -1, -1, api.ErrCount}, {bad, s, -1, -1, -1, kernel.ErrNone}, {stranger, s, -1, -1, -1, api.ErrTheory}, {nil, s, -1, -1, -1, resolve.ErrSubgoal}, {nil, s, 1, -1, -1, resolve.ErrSubgoal}, {nil, s, 0, -1, 0, api.ErrRange}, {nil, s, 0, 5001, 0, api.ErrRange}, {nil, s, 0, 0, 0, api.ErrFuel},
	} {
		if th, n, e := Safe(c.l, c.state, c.at, c.steps); e != c.want || n != 0 || th.Is() {
			t.Error("Safe", i, e, "not", c.want)
		}
		if th, n, e := Search(c.l, c.state, c.at, c.depth, c.steps); e != c.want || n != 0 || th.Is() {
			t.Error("Search", i, e, "not", c.want)
		}
	}
	for _, d := range []int{-1, 13} {
		if _, _, e := Search(nil, s, 0, d, 10); e != api.ErrRange {
			t.Error(d, e)
		}
	}
	if _, _, e := Search(nil, s, 0, 12, 10); e != api.ErrFail {
		t.Error(e)
	}
}

// A try is a call of Solved, or of First by one rule.
func TestP221Tries(t *testing.T) {
	l := []Rule{{fact("p_f"), Intro, true}, {fact("p_q"), Intro, false}, {fact("p_c"), Intro, false}}
	// q c: Solved, p_f (safe); p_q (unsafe); then p c: Solved, p_f; p_q, p_c
	s := state("|- q c")
	for steps := range 8 {
		th, n, e := Search(l, s, 0, 2, steps)
		if steps < 7 && e != api.ErrFuel || steps == 7 && (e != api.OK || n != 7 || len(th.Hyps()) > 0) {
			t.Error(steps, n, e)
		}
	}
	if _, _, e := Search(l, s, 0, 1, 100); e != api.ErrFail {
		t.Error(e)
	}
	// a safe step that ends: Solved and p_f of p (f c), the same of p c
	if _, n, e := Safe(l, state("|- p (f c)"), 0, 4); e != api.OK || n != 1 {
		t.Error(n, e)
	}
	if _, _, e := Safe(l, state("|- p (f c)"), 0, 3); e != api.ErrFuel {
		t.Error(e)
	}
	if _, _, e := Safe([]Rule{{fact("loop"), Intro, true}}, state("|- p c"), 0, 30); e != api.ErrFuel {
		t.Error(e)
	}
}

// The first state that succeeds is taken, whatever comes later.
func TestP221First(t *testing.T) {
	s := testlang.Term(small(), "|- p ?x ==> |- q ?x ==> |- r ?x c")
	a, e := kernel.Assume(small(), s)
	if e != api.OK {
		t.Fatal(e)
	}
	l := []Rule{{fact("p_c"), Intro, false}, {fact("plain"), Intro, false}}
	th, _, e := Search(l, a, 0, 3, 50)
	if e != api.OK || !term.Equal(th.Prop(), read("|- q c ==> |- r c c")) {
		t.Error(testlang.Sequent(th), e)
	}
	if _, _, e := Search(l, th, 0, 3, 50); e != api.ErrFail {
		t.Error(e)
	}
}

func TestP222Prove(t *testing.T) {
	for _, s := range []string{
		"|- (a & b --> b & a)", "|- ((ALL x. p x & q x) --> (ALL x. p x) & (ALL x. q x))", "|- (EX x. p x --> p d)", "|- p c ==> |- (EX x. p x)", "!!x. |- p x ==> |- (p x | q x)", "|- (~ (ALL x. p x) --> (EX x. ~ p x))", "|- True",
		"|- (EX (x::t). ALL (y::t). True)",
	} {
		prop := read(s)
		th, e := Prove(small(), nil, prop, 4)
		if e != api.OK || !term.Equal(th.Prop(), prop) || len(th.Hyps()) > 0 || len(th.Oracles()) > 0 || testlang.Fault(th) != "" || th.Theory().Name != "T" {
			t.Error(s, e, testlang.Sequent(th))
		}
	}
	l := []Rule{{fact("p_q"), Intro, false}, {fact("p_c"), Intro, true}}
	if th, e := Prove(small(), l, read("|- (EX x. q x)"), 4); e != api.OK || testlang.Fault(th) != "" {
		t.Error(e)
	}
	a := testlang.Assumed(small(), "|- p d")
	th, e := Prove(small(), []Rule{{a, Intro, true}}, read("p d == p d ==> |- (EX x. p x)"), 4)
	if e != api.OK || len(th.Hyps()) != 1 || testlang.Fault(th) != "" {
		t.Error(e)
	}
	if th, e := Prove(small(), nil, read("|- (p ?x --> p c)"), 4); e != api.OK || !term.Equal(th.Prop(), read("|- (p c --> p c)")) {
		t.Error(e, testlang.Sequent(th))
	}
}

func TestP221ProveErrors(t *testing.T) {
	fine := Rule{fact("p_q"), Intro, false}
	bad := api.Term{Op: api.Bound}
	for i, c := range []struct {
		thy   api.Theory
		l     []Rule
		prop  api.Term
		depth int
		want  api.Errno
	}{
		{theory.Pure(), []Rule{{}}, bad, -1, api.ErrTheory}, {small(), []Rule{{}}, bad, -1, kernel.ErrNone}, {hol.HOL(), []Rule{fine}, bad, -1, api.ErrTheory}, {small(), slices.Repeat([]Rule{fine}, 101), bad, -1, api.ErrCount}, {small(), slices.Repeat([]Rule{fine}, 79), bad, -1, api.ErrCount}, {small(), slices.Repeat([]Rule{fine}, 78), bad, -1, term.ErrLoose},
		{small(), nil, read("c"), -1, api.ErrType}, {small(), nil, read("|- p c"), -1, api.ErrRange}, {small(), nil, read("|- p c"), 13, api.ErrRange}, {small(), nil, read("|- p c"), 3, api.ErrFail}, {small(), nil, read("|- (a --> b)"), 2, api.ErrFail}, {small(), []Rule{{fact("loop"), Intro, true}}, read("p c == p c ==> |- p c"), 3, api.ErrFuel},
	} {
		if c.want == api.ErrFuel {
			continue // its states become deeper until resolution ends: see TestP221Tries
		}
		if th, e := Prove(c.thy, c.l, c.prop, c.depth); e != c.want || th.Is() {
			t.Error(i, e, "not", c.want)
		}
	}
}

// chance makes a formula with some connectives.
func chance(m *rand.Rand, n int) string {
	if n == 0 {
		return []string{"a", "b", "c", "True", "False"}[m.Intn(5)]
	}
	if m.Intn(4) == 0 {
		return "~ (" + chance(m, n-1) + ")"
	}
	k := m.Intn(n)
	return "(" + chance(m, k) + ")" + []string{"&", "|", "-->"}[m.Intn(3)] + "(" + chance(m, n-1-k) + ")"
}

func TestP223Complete(t *testing.T) {
	m := rand.New(rand.NewSource(223))
	thy := hol.HOL()
	yes := 0
	for range 60 {
		s := chance(m, 1+m.Intn(3))
		x := testlang.Term(thy, "("+s+") :: bool")
		ok, _, e := Tautology(x)
		if e != api.OK {
			t.Fatal(e)
		}
		th, e := Prove(thy, nil, hol.Truth(x), 1+m.Intn(2))
		if ok != (e == api.OK) || !ok && e != api.ErrFail {
			t.Error(s, ok, e)
		}
		if ok {
			yes++
			if testlang.Fault(th) != "" {
				t.Error(s)
			}
		}
	}
	if yes < 10 {
		t.Error(yes)
	}
}

func TestP224More(t *testing.T) {
	for _, s := range []string{"|- (p c & q c --> q c & p c)", "|- ((ALL x. p x) --> p c & p d)"} {
		_, n, e := Search(standard(), state(s), 0, 3, MaxSteps)
		if e != api.OK {
			t.Fatal(e)
		}
		for _, steps := range []int{0, 1, n / 2, n - 1, n, n + 1, n + 50} {
			th, k, e := Search(standard(), state(s), 0, 3, steps)
			if (e == api.OK) != (steps >= n) || e == api.OK && (k != n || !th.Is()) || e != api.OK && e != api.ErrFuel {
				t.Error(s, steps, n, e)
			}
		}
	}
}

func TestP225Safe(t *testing.T) {
	m := rand.New(rand.NewSource(225))
	for range 25 {
		s := "|- ((" + chance(m, 3) + ") :: bool) ==> |- ((" + chance(m, 2) + ") :: bool)"
		s = strings.ReplaceAll(s, "c", "e")
		th, _, e := Safe(standard(), state(s), 0, MaxSteps)
		if e != api.OK {
			t.Fatal(e)
		}
		goals, _ := term.Strip(th.Prop())
		for i := range goals {
			if _, n, e := Safe(standard(), th, i, MaxSteps); e != api.OK || n != 0 {
				t.Error(s, i, n, e)
			}
		}
	}
}

func TestP221Tautology(t *testing.T) {
	thy := small()
	for _, c := range []struct {
		s    string
		ok   bool
		want string
	}{
		{"True", true, ""}, {"False", false, ""}, {"(a::bool) | ~ a", true, ""}, {"(a::bool)", false, "a::bool"}, {"~ a", false, ""}, {"(a::bool) & b", false, "a::bool; b::bool"}, {"(a::bool) --> b", false, "b::bool"}, {"(a = b) | (a = (~ b))", true, ""}, {"p c --> p d", false, "p d"}, {"(c = d) --> (d = c)", false, "d = c"}, {"(ALL x. p x) --> p c", false, "p c"}, {"(a --> b) --> ((b::bool) --> a)", false, "a::bool"}, {"(a::bool) = b", false, "a::bool"},
		{"a & b & d2 & e & f1 & g & h & i & j & k & l & m --> a", true, ""},
	} {
		ok, l, e := Tautology(testlang.Term(thy, c.s))
		if e != api.OK || ok != c.ok || !slices.EqualFunc(l, testlang.Terms(thy, c.want), term.Equal) {
			t.Error(c.s, ok, len(l), e)
		}
	}
	if _, _, e := Tautology(api.Term{Op: api.Bound}); e != term.ErrLoose {
		t.Error(e)
	}
	if _, _, e := Tautology(read("c")); e != api.ErrType {
		t.Error(e)
	}
	many := "a & b & d2 & e & f1 & g & h & i & j & k & l & m & n --> a"
	if _, _, e := Tautology(read(many)); e != api.ErrCount {
		t.Error(e)
	}
	odd := api.Term{Op: api.Const, Name: "And", Type: hol.BoolType()}
	if ok, l, e := Tautology(odd); ok || len(l) != 1 || e != api.OK {
		t.Error("a constant of another type is an atom", e)
	}
}

// The values of Tautology, asked one by one.
func TestP221TautologyRandom(t *testing.T) {
	m := rand.New(rand.NewSource(22))
	thy := hol.HOL()
	for range 300 {
		x := testlang.Term(thy, "("+chance(m, 5)+") :: bool")
		ok, l, e := Tautology(x)
		if e != api.OK {
			t.Fatal(e)
		}
		all := term.Frees(x)
		var first []string
		found := false
		for n := 0; n < 1<<len(all) && !found; n++ {
			values := map[string]bool{}
			first = nil
			for i, a := range all {
				values[a.Name] = n>>(len(all)-1-i)&1 == 1
				if !values[a.Name] {
					first = append(first, a.Name)
				}
			}
			found = !holds(x, values)
		}
		var got []string
		for _, a := range l {
			got = append(got, a.Name)
		}
		if ok == found || found && !slices.Equal(got, first) {
			t.Error(testlang.Text(thy, x), ok, got, first)
		}
	}
}

func holds(x api.Term, v map[string]bool) bool {
	f, l := term.Spine(x)
	switch f.Name {
	case "Not":
		return !holds(l[0], v)
	case "And":
		return holds(l[0], v) && holds(l[1], v)
	case "Or":
		return holds(l[0], v) || holds(l[1], v)
	case "Implies":
		return !holds(l[0], v) || holds(l[1], v)
	}
	return f.Name == "True" || v[f.Name]
}
