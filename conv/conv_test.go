package conv

import (
	"math/rand"
	"slices"
	"sync"
	"testing"

	"triforium/api"
	"triforium/hol"
	"triforium/kernel"
	"triforium/resolve"
	"triforium/term"
	"triforium/testlang"
	"triforium/theory"
)

var small = sync.OnceValue(func() api.Theory {
	return testlang.Theory(theory.Pure(), "t", "a : t; b : t; c : t; f : t => t; g : t => t => t; h : (t => t) => t; p : t => prop",
		"f_x : f ?x == ?x; a_b : a == b; g_swap : g ?x ?y == g ?y ?x; h_const : h (%x. ?y) == ?y; g_dup : f ?x == g ?x ?x; h_eta : h ?F == ?F a; open : f ?x == g ?x ?z; f_f : f (f ?x) == f ?x; g_ff : g (f ?x) (f ?y) == f (g ?x ?y); up : b == f b")
})

func rules(names string) []kernel.Theorem { return testlang.Axioms(small(), names) }

// expr is an expression of a kind.
func expr(kind int, kids ...Expr) Expr { return Expr{Kind: kind, Kids: kids} }

func use(n int) Expr { return Expr{Kind: Rule, Num: n} }

// becomes runs a conversion, and returns the text of what comes out, or the digits of the error.
func becomes(t *testing.T, names string, e Expr, s string, fuel int) string {
	t.Helper()
	thy := small()
	x := testlang.Term(thy, s)
	th, err := Run(thy, rules(names), e, x, fuel)
	if err != api.OK {
		if th.Is() {
			t.Error(s, "a theorem with an error")
		}
		return err.Error()
	}
	a, b, ok := term.IsEq(th.Prop())
	if !ok || !term.Equal(a, x) || len(th.Oracles()) > 0 || testlang.Fault(th) != "" {
		t.Error(s, testlang.Sequent(th), testlang.Fault(th))
	}
	return testlang.Text(thy, b)
}

// printed is how a term, or the digits of an error, are written.
func printed(s string) string {
	if s[0] >= '0' && s[0] <= '9' {
		return s
	}
	return testlang.Text(small(), testlang.Term(small(), s))
}

func TestP201Kinds(t *testing.T) {
	step := expr(Beta)
	for i, c := range []struct {
		names string
		e     Expr
		s     string
		fuel  int
		want  string
	}{
		{"f_x", expr(Bottom, use(0)), "g (f a) (f (f b))", 3, "g a b"}, {"f_x", expr(Bottom, use(0)), "g (f a) (f (f b))", 2, "8"},
		{"", expr(All), "f a", 0, "f a"}, {"", expr(No), "f a", 9, "16"},
		{"", step, "(%x. g x x) a", 1, "g a a"}, {"", step, "(%x. g x x) a", 0, "8"}, {"", step, "g a a", 0, "16"}, {"", step, "%y. (%x. x) y", 1, "16"},
		{"", expr(Eta), "%x. g a x", 1, "g a"}, {"", expr(Eta), "%x. g x x", 1, "16"}, {"", expr(Eta), "f", 0, "16"},
		{"f_x", use(0), "f a", 1, "a"}, {"f_x", use(0), "f a", 0, "8"}, {"f_x", use(0), "g a a", 0, "16"}, {"f_x", use(0), "f ?x", 1, "?x :: t"},
		{"f_x", use(0), "(%y. f y) ((%x. x) a)", 1, "a"}, {"h_eta", use(0), "h (%x. f x)", 1, "f a"}, {"h_eta", use(0), "h f", 1, "f a"}, {"h_const", use(0), "h (%x. f x)", 9, "16"}, {"h_const", use(0), "h (%x. f a)", 9, "f a"},
		{"open", use(0), "f a", 1, "g a ?z.0"}, {"open", use(0), "f ?z.3", 1, "g ?z.3 ?z.4"},
		{"f_x a_b", expr(Then, use(0), use(1)), "f a", 2, "b"}, {"f_x a_b", expr(Then, use(0), use(1)), "f a", 1, "8"}, {"f_x a_b", expr(Then, use(0), use(1)), "f c", 9, "16"},
		{"f_x a_b", expr(Else, use(0), use(1)), "a", 1, "b"}, {"f_x a_b", expr(Else, use(0), use(1)), "f a", 1, "a"}, {"f_x a_b", expr(Else, use(0), use(1)), "c", 1, "16"},
		{"f_x", expr(Repeat, use(0)), "f (f a)", 2, "a"}, {"f_x", expr(Repeat, use(0)), "f (f a)", 1, "8"}, {"f_x", expr(Repeat, use(0)), "a", 0, "a"}, {"g_swap", expr(Repeat, use(0)), "g a b", 9, "8"}, {"g_swap", expr(Repeat, use(0)), "g a a", 1, "g a a"}, {"g_swap", expr(Repeat, use(0)), "g a a", 0, "8"},
		{"a_b", expr(Arg, use(0)), "g a a", 9, "g a b"}, {"a_b", expr(Fun, expr(Arg, use(0))), "g a a", 9, "g b a"}, {"a_b", expr(Fun, use(0)), "f a", 9, "16"}, {"a_b", expr(Arg, use(0)), "a", 9, "16"}, {"a_b", expr(Body, use(0)), "a", 9, "16"},
		{"a_b", expr(Body, expr(Arg, use(0))), "%x. g x a", 9, "%x. g x b"}, {"f_x", expr(Body, use(0)), "%x. f x", 9, "%(x :: t). x"},
		{"a_b", expr(Sub, use(0)), "f a", 9, "f b"}, {"a_b", expr(Sub, use(0)), "g c a", 9, "g c b"}, {"a_b", expr(Sub, use(0)), "f c", 9, "16"}, {"a_b", expr(Sub, use(0)), "a", 9, "16"}, {"a_b", expr(Sub, use(0)), "%(x::t). a", 9, "%(x::t). b"},
		{"f_x", expr(Top, use(0)), "g (f a) (f (f b))", 3, "g a b"}, {"f_x", expr(Top, use(0)), "g (f a) (f (f b))", 2, "8"}, {"g_ff", expr(Top, use(0)), "g (g (f a) (f b)) (f c)", 2, "f (g (g a b) c)"}, {"f_x", expr(Top, use(0)), "a", 0, "a"},
		{"g_dup", expr(Top, use(0)), "f (f a)", 3, "g (g a a) (g a a)"}, {"g_dup", expr(Bottom, use(0)), "f (f a)", 2, "g (g a a) (g a a)"}, {"g_dup", expr(Bottom, use(0)), "f (f a)", 1, "8"},
		{"g_swap", expr(Bottom, use(0)), "g a a", 1, "g a a"}, {"g_swap", expr(Bottom, use(0)), "g a b", 9, "8"}, {"g_ff", expr(Bottom, use(0)), "g (g (f a) (f b)) (f c)", 2, "f (g (g a b) c)"},
		{"f_x", expr(Once, use(0)), "g (f a) (f (f b))", 1, "g a (f (f b))"}, {"f_x", expr(Once, use(0)), "f (f a)", 1, "f a"}, {"f_x", expr(Once, use(0)), "g a b", 1, "16"}, {"f_x", expr(Once, use(0)), "%x. g x (f x)", 1, "%x. g x x"},
		{"", expr(Norm), "(%x. f x) ((%x. x) a)", 1, "f a"}, {"", expr(Norm), "a", 1, "a"}, {"", expr(Norm), "a", 0, "8"}, {"", expr(Norm), "h (%y. (%x. g x y) a)", 1, "h (%y. g a y)"},
		{"up", expr(Repeat, expr(Once, use(0))), "b", 30, "8"},
	} {
		if got := becomes(t, c.names, c.e, c.s, c.fuel); got != printed(c.want) {
			t.Error(i, c.s, "became", got, "not", c.want)
		}
	}
}

func TestP201Form(t *testing.T) {
	deep := func(n int) Expr {
		e := expr(All)
		for range n - 1 {
			e = expr(Repeat, e)
		}
		return e
	}
	wide := func(n int) Expr { // a balanced one with 2n - 1 nodes
		l := slices.Repeat([]Expr{expr(All)}, n)
		for len(l) > 1 {
			l = append(l[2:], expr(Then, l[0], l[1]))
		}
		return l[0]
	}
	for i, c := range []struct {
		e    Expr
		n    int
		want api.Errno
	}{
		{expr(0), 0, api.ErrForm}, {expr(17), 0, api.ErrForm}, {expr(-1), 0, api.ErrForm}, {expr(Then, expr(All)), 0, api.ErrForm}, {expr(All, expr(All)), 0, api.ErrForm}, {expr(Norm, expr(All)), 0, api.ErrForm},
		{Expr{Kind: All, Num: 1}, 5, api.ErrForm}, {use(0), 0, api.ErrRange}, {use(-1), 3, api.ErrRange}, {use(3), 3, api.ErrRange}, {use(2), 3, api.OK}, {use(0), -1, api.ErrRange},
		{expr(Then, use(9), expr(0)), 1, api.ErrRange}, {expr(Then, expr(0), use(9)), 1, api.ErrForm}, {deep(20), 0, api.OK}, {deep(21), 0, api.ErrDepth}, {deep(101), 0, api.ErrCount}, {wide(50), 0, api.OK}, {expr(Repeat, wide(50)), 0, api.OK}, {wide(51), 0, api.ErrCount},
		{expr(Repeat, expr(Repeat)), 0, api.ErrForm},
	} {
		if got := Form(c.e, c.n); got != c.want {
			t.Error(i, got, "not", c.want)
		}
	}
}

func TestP201Make(t *testing.T) {
	thy := small()
	bad := api.Theory{}
	noEq := testlang.Assumed(thy, "p a")
	other := testlang.Theory(theory.Pure(), "u", "z : u", "z_z : z == z")
	stranger := testlang.Axiom(other, "z_z")
	fine := rules("f_x")[0]
	for i, c := range []struct {
		thy   api.Theory
		rules []kernel.Theorem
		e     Expr
		fuel  int
		want  api.Errno
	}{
		{bad, slices.Repeat([]kernel.Theorem{{}}, 51), expr(0), -1, api.ErrForm}, {thy, slices.Repeat([]kernel.Theorem{{}}, 51), expr(0), -1, api.ErrCount}, {thy, slices.Repeat([]kernel.Theorem{fine}, 50), expr(All), 0, api.OK},
		{thy, []kernel.Theorem{{}, stranger}, expr(0), -1, kernel.ErrNone}, {thy, []kernel.Theorem{stranger, {}}, expr(0), -1, api.ErrTheory}, {thy, []kernel.Theorem{noEq, {}}, expr(0), -1, api.ErrArgument}, {thy, []kernel.Theorem{fine, noEq}, expr(0), -1, api.ErrArgument},
		{thy, nil, expr(0), -1, api.ErrForm}, {thy, nil, expr(All), -1, api.ErrRange}, {thy, nil, expr(All), 2001, api.ErrRange}, {thy, nil, expr(All), 2000, api.OK},
	} {
		k, got := Make(c.thy, c.rules, c.e, c.fuel)
		if got != c.want || (k == nil) != (got != api.OK) {
			t.Error(i, got, "not", c.want)
		}
		if _, got := Run(c.thy, c.rules, c.e, api.Term{}, c.fuel); got != c.want && c.want != api.OK {
			t.Error("Run", i, got, "not", c.want)
		}
	}
	k, _ := Make(thy, nil, expr(All), 5)
	if _, e := k(api.Term{Op: api.Bound}); e != term.ErrLoose {
		t.Error("a term that is wrong", e)
	}
	if th, e := k(testlang.Term(thy, "a")); e != api.OK || th.Theory().Name != "T" {
		t.Error("the theory", e)
	}
	lower, _ := kernel.Axiom(theory.Pure(), "protect_def")
	if _, e := Run(thy, []kernel.Theorem{lower}, use(0), term.Protect(testlang.Term(thy, "p a")), 1); e != api.OK {
		t.Error("a rule of a lesser theory", e)
	}
}

// Each call has the whole fuel; a rule that is used twice in one call has it once.
func TestP201Fuel(t *testing.T) {
	thy := small()
	k, e := Make(thy, rules("f_x"), expr(Repeat, use(0)), 2)
	if e != api.OK {
		t.Fatal(e)
	}
	for range 3 {
		if _, e := k(testlang.Term(thy, "f (f a)")); e != api.OK {
			t.Error(e)
		}
	}
	if _, e := k(testlang.Term(thy, "f (f (f a))")); e != api.ErrFuel {
		t.Error(e)
	}
	grow := testlang.Term(thy, "a")
	for range 12 {
		grow = term.Apps(testlang.Term(thy, "g"), []api.Term{grow, grow})
	}
	grow = term.Apps(testlang.Term(thy, "%x. g x x"), []api.Term{grow})
	for _, e := range []Expr{expr(Norm), expr(Else, expr(Norm), expr(All)), expr(Repeat, expr(Norm))} {
		if _, e := Run(thy, nil, e, grow, 0); e != api.ErrCount {
			t.Error("a normal form that is too large", e)
		}
	}
}

func TestP201Convert(t *testing.T) {
	thy := small()
	k, _ := Make(thy, rules("f_x"), expr(Bottom, use(0)), 9)
	th := testlang.Assumed(thy, "p (f a)")
	got, e := Convert(k, th)
	if e != api.OK || testlang.Sequent(got) != "p (f a) |> p a" || testlang.Fault(got) != "" {
		t.Error(testlang.Sequent(got), e)
	}
	if _, e := Convert(nil, kernel.Theorem{}); e != kernel.ErrNone {
		t.Error(e)
	}
	if _, e := Convert(nil, th); e != api.ErrArgument {
		t.Error(e)
	}
	if _, e := Convert(func(api.Term) (kernel.Theorem, api.Errno) { return kernel.Theorem{}, api.ErrDamaged }, th); e != api.ErrDamaged {
		t.Error(e)
	}
	if _, e := Convert(func(api.Term) (kernel.Theorem, api.Errno) { return kernel.Theorem{}, api.OK }, th); e != kernel.ErrNone {
		t.Error(e)
	}
	if _, e := Convert(func(api.Term) (kernel.Theorem, api.Errno) { return rules("a_b")[0], api.OK }, th); e != api.ErrFail {
		t.Error("of another term", e)
	}
	smaller, _ := Make(hol.HOL(), nil, expr(All), 9)
	if _, e := Convert(smaller, th); e == api.OK {
		t.Error("of another theory")
	}
}

// The hypotheses of a rule are instantiated; over one with a bound variable there is no abstraction.
func TestP202Hypotheses(t *testing.T) {
	thy := small()
	rule, e := kernel.Assume(thy, testlang.Term(thy, "f ?x == ?x"))
	if e != api.OK {
		t.Fatal(e)
	}
	for _, c := range []struct {
		e             Expr
		s, hyps, want string
	}{
		{use(0), "f a", "f a == a", "a"}, {expr(Bottom, use(0)), "g (f a) (f b)", "f a == a; f b == b", "g a b"}, {expr(Body, use(0)), "%x. f x", "", "16"}, {expr(Bottom, use(0)), "h (%x. g (f x) (f a))", "", "h (%x. g (f x) (f a))"},
		{expr(Top, use(0)), "g (f a) (h (%x. f x))", "f a == a", "g a (h (%x. f x))"}, {expr(Sub, use(0)), "%x. f x", "", "16"}, {expr(Once, use(0)), "g (h (%x. f x)) (f b)", "f b == b", "g (h (%x. f x)) b"},
	} {
		th, err := Run(thy, []kernel.Theorem{rule}, c.e, testlang.Term(thy, c.s), 50)
		if err != api.OK {
			if err.Error() != c.want {
				t.Error(c.s, err)
			}
			continue
		}
		_, b, _ := term.IsEq(th.Prop())
		if !slices.EqualFunc(th.Hyps(), testlang.Terms(thy, c.hyps), term.Equal) || !term.Equal(b, testlang.Term(thy, c.want)) || testlang.Fault(th) != "" {
			t.Error(c.s, testlang.Sequent(th), testlang.Fault(th))
		}
	}
}

// A Free of a rule's right side that has another type in the term is not permitted: the rule does not apply.
func TestP202Types(t *testing.T) {
	thy := small()
	rule, e := kernel.Assume(thy, testlang.Term(thy, "f a == g a (z::t)"))
	if e != api.OK {
		t.Fatal(e)
	}
	x := testlang.Term(thy, "p (f a) ==> (z::prop)")
	if _, e := Run(thy, []kernel.Theorem{rule}, expr(Once, use(0)), x, 9); e != api.ErrFail {
		t.Error(e)
	}
	if _, e := Run(thy, []kernel.Theorem{rule}, expr(Else, expr(Once, use(0)), expr(All)), x, 9); e != api.OK {
		t.Error(e)
	}
}

// maker makes terms and expressions by chance.
type maker struct{ *rand.Rand }

func (m maker) term(depth int) string {
	pick := m.Intn(9)
	if depth == 0 {
		pick = m.Intn(3)
	}
	switch pick {
	case 0, 1, 2:
		return []string{"a", "b", "c"}[pick]
	case 3, 4:
		return "f (" + m.term(depth-1) + ")"
	case 5, 6:
		return "g (" + m.term(depth-1) + ") (" + m.term(depth-1) + ")"
	case 7:
		return "h (%x. g x (" + m.term(depth-1) + "))"
	}
	return "(%x. f x) (" + m.term(depth-1) + ")"
}

func (m maker) expr(depth, rules int) Expr {
	pick := m.Intn(16) + 1
	if depth == 0 {
		pick = []int{All, No, Beta, Eta, Rule, Rule, Rule, Norm}[m.Intn(8)]
	}
	e := Expr{Kind: pick}
	if pick == Rule {
		e.Num = m.Intn(rules)
	}
	for range kidsOf(pick) {
		e.Kids = append(e.Kids, m.expr(depth-1, rules))
	}
	return e
}

// The words of the document, of terms alone, say the same.
func TestP201Random(t *testing.T) {
	thy := small()
	m := maker{rand.New(rand.NewSource(20))}
	l := rules("f_x a_b g_swap h_const g_dup h_eta f_f g_ff up")
	for range 1500 {
		x := testlang.Term(thy, m.term(4))
		e := m.expr(3, len(l))
		fuel := []int{0, 1, 2, 3, 5, 30}[m.Intn(6)]
		want, code := naive(thy, l, e, x, fuel)
		th, err := Run(thy, l, e, x, fuel)
		if err != code {
			t.Fatal(testlang.Text(thy, x), e, fuel, err, "not", code)
		}
		if err != api.OK {
			continue
		}
		if _, b, _ := term.IsEq(th.Prop()); !term.Equal(b, want) || len(th.Hyps()) > 0 {
			t.Fatal(testlang.Text(thy, x), e, fuel, testlang.Text(thy, b), "not", testlang.Text(thy, want))
		}
		if m.Intn(10) == 0 && testlang.Fault(th) != "" {
			t.Fatal(testlang.Fault(th))
		}
	}
}

func TestP203Algebra(t *testing.T) {
	thy := small()
	m := maker{rand.New(rand.NewSource(203))}
	l := rules("f_x a_b g_swap h_const g_dup f_f g_ff")
	same := func(law string, a, b Expr, x api.Term) {
		p, e := Run(thy, l, a, x, 400)
		q, f := Run(thy, l, b, x, 400)
		if e == api.ErrFuel || f == api.ErrFuel {
			return
		}
		if e != f || !term.Equal(p.Prop(), q.Prop()) {
			t.Error(law, e, f, testlang.Text(thy, x), a)
		}
	}
	for range 150 {
		x := testlang.Term(thy, m.term(3))
		a, b, c := m.expr(2, len(l)), m.expr(2, len(l)), m.expr(2, len(l))
		for _, k := range []int{Then, Else} {
			same("associative", expr(k, a, expr(k, b, c)), expr(k, expr(k, a, b), c), x)
		}
		same("All ahead", expr(Then, expr(All), a), a, x)
		same("All behind", expr(Then, a, expr(All)), a, x)
		same("No ahead", expr(Else, expr(No), a), a, x)
		same("No behind", expr(Else, a, expr(No)), a, x)
		same("Repeat", expr(Repeat, expr(Repeat, a)), expr(Repeat, a), x)
	}
}

func TestP204Normal(t *testing.T) {
	thy := small()
	m := maker{rand.New(rand.NewSource(204))}
	l := rules("f_x a_b h_const")
	either := expr(Else, use(0), expr(Else, use(1), use(2)))
	for range 200 {
		x := testlang.Term(thy, m.term(4))
		th, e := Run(thy, l, expr(Bottom, either), x, 2000)
		if e != api.OK {
			t.Fatal(e)
		}
		_, y, _ := term.IsEq(th.Prop())
		if _, e := Run(thy, l, expr(Once, either), y, 10); e != api.ErrFail {
			t.Error(testlang.Text(thy, y), "has a part", e)
		}
		n, _ := Run(thy, l, expr(Norm), x, 1)
		_, y, _ = term.IsEq(n.Prop())
		n, _ = Run(thy, l, expr(Norm), y, 1)
		if _, z, _ := term.IsEq(n.Prop()); !term.Equal(y, z) {
			t.Error("Norm of a Norm", testlang.Text(thy, y))
		}
	}
}

// Whatever the arguments are, there is a result.
func TestP1Garbage(t *testing.T) {
	thy := small()
	m := maker{rand.New(rand.NewSource(1))}
	terms := []api.Term{{}, {Op: api.App}, {Op: api.Abs, Kids: []api.Term{{}}}, {Op: 99}, {Op: api.Free, Name: "x", Num: -1}, {Op: api.App, Kids: []api.Term{{Op: api.Bound, Num: -5}, {}}}}
	for range 300 {
		e := m.expr(2, 9)
		e.Kind += m.Intn(3) - 1
		e.Num -= m.Intn(2)
		x := terms[m.Intn(len(terms))]
		if _, err := Run(thy, rules("f_x"), e, x, 9); err == api.OK {
			t.Error("no error", e, x)
		}
	}
}

// 2 + 2 is 4.
func TestP201Numbers(t *testing.T) {
	reflect, e := hol.Rule("eq_reflection")
	if e != api.OK {
		t.Fatal(e)
	}
	var l []kernel.Theorem
	for _, name := range []string{"plus_Suc", "plus_Zero"} {
		th, e := hol.Rule(name)
		if e != api.OK {
			t.Fatal(e)
		}
		th, e = resolve.Of(reflect, th, 8)
		if e != api.OK {
			t.Fatal(name, e)
		}
		l = append(l, th)
	}
	thy := hol.Nat()
	th, e := Run(thy, l, expr(Bottom, expr(Else, use(0), use(1))), testlang.Term(thy, "Suc (Suc Zero) + Suc (Suc Zero)"), 3)
	if e != api.OK || testlang.Fault(th) != "" {
		t.Fatal(e)
	}
	_, b, _ := term.IsEq(th.Prop())
	if four, _ := hol.Numeral(4); !term.Equal(b, four) {
		t.Error(testlang.Sequent(th))
	}
}
