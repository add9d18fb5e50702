package simp

import (
	"slices"
	"strings"
	"sync"
	"testing"

	"triforium/api"
	"triforium/conv"
	"triforium/hol"
	"triforium/kernel"
	"triforium/resolve"
	"triforium/tactic"
	"triforium/term"
	"triforium/testlang"
	"triforium/theory"
)

// small has numbers, and some functions and equations on them.
var small = sync.OnceValue(func() api.Theory {
	return testlang.Theory(hol.Nat(), "t", "f : nat => nat => nat; g : nat => nat; p : nat => bool; q : nat => bool; c : nat; d : nat; h : (nat => nat) => nat; k : t => t; s : nat => ?'a => bool",
		`f_cond : |- (?n <= ?m) ==> f ?n ?m == ?m; zero_le : (Zero <= ?n) == True; swap : (?m + ?n) == (?n + ?m); g_n : g ?n == ?n; c_d : c == d; d_c : d == c; g_up : g ?n == g (Suc ?n); two : |- (p ?n) ==> |- (q ?n) ==> g ?n == Zero;
		p_c : |- p c; all_p : |- (ALL (x::nat). p x); and_pq : |- (p c & (q c --> ~ p d)); wide : |- (ALL (n::nat). (EX (x::nat). x = n) --> (n = n) & True); h_x : h (%x. f x ?n) == ?n; var : ?n == c; more : g ?n == f ?n ?m;
		left : (?m + (?n + ?k)) == (?n + (?m + ?k)); assoc : ((?m + ?n) + ?k) == (?m + (?n + ?k)); grow : g ?n == ((?n + ?n) + (?n + ?n)); not_eq : |- ~ (c = d); eq_eq : |- (c = d); imp_p : |- (p ?n) ==> |- (?A --> q ?n); meta_c : |- (p c) ==> (q c) == True; other : p c == p c ==> c == d; k_k : k ?x == k (k ?x)`)
})

func facts(names string) []kernel.Theorem { return testlang.Axioms(small(), names) }

func read1(s string) api.Term { return testlang.Term(small(), s) }

// rewritten holds what a term becomes, or the digits of the error, against a term or digits.
func rewritten(t *testing.T, s Set, assumed []kernel.Theorem, x string, depth, fuel int, want string) {
	t.Helper()
	got, code := becomes(t, s, assumed, x, depth, fuel)
	if code != api.OK || want[0] >= '0' && want[0] <= '9' {
		if code.Error() != want {
			t.Error(x, "has", code, testlang.Text(small(), got), "not", want)
		}
		return
	}
	if !term.Equal(got, read1(want)) {
		t.Error(x, "became", testlang.Text(small(), got), "not", want)
	}
}

func becomes(t *testing.T, s Set, assumed []kernel.Theorem, x string, depth, fuel int) (api.Term, api.Errno) {
	t.Helper()
	thy := small()
	th, e := Rewrite(thy, s, assumed, read1(x), depth, fuel)
	if e != api.OK {
		if th.Is() {
			t.Error("a theorem with an error")
		}
		return api.Term{}, e
	}
	a, b, ok := term.IsEq(th.Prop())
	if !ok || !term.Equal(a, read1(x)) || testlang.Fault(th) != "" || len(th.Oracles()) > 0 {
		t.Error(x, testlang.Sequent(th), testlang.Fault(th))
	}
	return b, api.OK
}

func standard(t *testing.T) Set {
	s, e := Standard(small())
	if e != api.OK {
		t.Fatal(e)
	}
	return s
}

func TestP211Rewrite(t *testing.T) {
	for _, c := range []struct {
		rules       string
		x           string
		depth, fuel int
		want        string
	}{
		{"f_cond zero_le", "f Zero c", 1, 9, "c"}, {"f_cond zero_le", "f Zero c", 0, 9, "f Zero c"}, {"f_cond zero_le", "f d c", 5, 9, "f d c"}, {"f_cond zero_le", "f Zero c", 1, 1, "8"}, {"f_cond zero_le", "f Zero c", 1, 2, "c"}, {"f_cond zero_le", "f Zero c", 0, 0, "8"},
		{"g_n", "g (g c)", 0, 2, "c"}, {"g_n", "g (g c)", 0, 1, "8"}, {"g_n", "c", 0, 0, "c"}, {"g_n", "%x. g x", 0, 5, "%(x::nat). x"}, {"g_n", "(%x. g x) c", 0, 1, "c"}, {"g_n", "h g", 0, 9, "h g"},
		{"c_d d_c", "c", 0, 50, "8"}, {"g_up", "g c", 0, 30, "8"}, {"g_up", "g c", 0, 60, "7"}, {"swap", "d + c", 0, 9, "c + d"}, {"swap", "c + d", 0, 0, "c + d"}, {"swap", "c + c", 0, 0, "c + c"}, {"swap", "(y::nat) + x", 0, 9, "(x::nat) + y"},
		{"swap left assoc", "(d + c) + (c + d)", 0, 50, "c + (c + (d + d))"}, {"swap", "h (%x. h (%y. y + x))", 0, 9, "h (%x. h (%y. x + y))"}, {"swap", "h (%x. x + c)", 0, 9, "h (%x. c + x)"},
		{"two", "g c", 5, 9, "g c"}, {"h_x", "h (%x. f x c)", 0, 9, "c"}, {"h_x", "h (%x. f x x)", 0, 9, "h (%x. f x x)"}, {"g_n", "g ?n", 0, 9, "?n :: nat"}, {"grow", "g (g (g c))", 0, 9, "(((c+c)+(c+c))+((c+c)+(c+c)))+(((c+c)+(c+c))+((c+c)+(c+c)))+((((c+c)+(c+c))+((c+c)+(c+c)))+(((c+c)+(c+c))+((c+c)+(c+c))))"},
	} {
		if c.rules == "grow" {
			c.want = "7"
			c.x = "g (g (g (g c)))"
		}
		rewritten(t, Set{Rules: facts(c.rules)}, nil, c.x, c.depth, c.fuel, c.want)
	}
	rewritten(t, Set{Rules: facts("grow")}, nil, "g (g c)", 0, 9, "((c+c)+(c+c))+((c+c)+(c+c))+(((c+c)+(c+c))+((c+c)+(c+c)))")
}

func TestP211Assumed(t *testing.T) {
	s := Set{Rules: facts("two c_d")}
	both := facts("p_c")
	q := testlang.Assumed(small(), "|- q c")
	rewritten(t, s, append(both, q), "g c", 1, 9, "g d")
	s.Rules = facts("two")
	rewritten(t, s, append(both, q), "g c", 1, 9, "Zero")
	rewritten(t, s, append(both, q), "g c", 0, 9, "g c")
	rewritten(t, Set{Rules: facts("c_d")}, facts("d_c"), "c", 0, 1, "8")
	th, e := Rewrite(small(), s, append(both, q), read1("g c"), 1, 9)
	if e != api.OK || len(th.Hyps()) != 1 || !term.Equal(th.Hyps()[0], read1("|- q c")) {
		t.Error(testlang.Sequent(th), e)
	}
	rewritten(t, Set{Rules: facts("g_n")}, []kernel.Theorem{testlang.Assumed(small(), "g c == d")}, "g c", 0, 9, "d")
}

func TestP211Standard(t *testing.T) {
	s := standard(t)
	if len(s.Rules) != 20 || len(s.Congs) != 3 || len(s.Procs) != 0 {
		t.Fatal(len(s.Rules), len(s.Congs))
	}
	if got := testlang.Text(small(), s.Rules[0].Prop()); got != testlang.Text(small(), read1("(~ ~ ?P) == ?P")) {
		t.Error(got)
	}
	if !term.Equal(s.Congs[0].Prop(), read1("?P == ?P' ==> (|- ?P' ==> ?Q == ?Q') ==> (?P & ?Q) == (?P' & ?Q')")) {
		t.Error(testlang.Sequent(s.Congs[0]))
	}
	for x, want := range map[string]string{
		"True & (x::nat) = x": "True", "P & (P --> Q)": "P & Q", "P --> P": "True", "P --> ~ P": "P --> False", "~ P & P": "~ P & False", "(p c) & (c = c --> p c)": "p c", "if P then (if P then (x::nat) else y) else z": "if P then (x::nat) else z",
		"if P then (x::nat) else (if P then y else z)": "if P then (x::nat) else z", "ALL (x::nat). p x | True": "True", "EX (x::nat). P": "P::bool", "%(x::nat). P & P": "%(x::nat). (P::bool)", "(ALL (x::nat). p x) --> p c": "True", "(c = d) & p c": "(c = d) & p d", "P & Q & P": "P & Q",
	} {
		switch x {
		case "P --> ~ P":
			want = "~ P"
		case "~ P & P":
			want = "False"
		}
		rewritten(t, s, nil, x, 3, 200, want)
	}
	for _, x := range []api.Theory{{}, theory.Pure()} {
		want := theory.Check(x)
		if want == api.OK {
			want = api.ErrTheory
		}
		if s, e := Standard(x); e != want || s.Rules != nil {
			t.Error(e, want)
		}
	}
}

func TestP211Procedures(t *testing.T) {
	once := conv.Expr{Kind: conv.Rule}
	proc := func(pattern, rule string) Proc { return Proc{read1(pattern), facts(rule), once} }
	for _, c := range []struct {
		s    Set
		x    string
		fuel int
		want string
	}{
		{Set{Procs: []Proc{proc("g ?n", "g_n")}}, "g (g c)", 2, "c"}, {Set{Procs: []Proc{proc("g ?n", "g_n")}}, "g (g c)", 1, "8"}, {Set{Procs: []Proc{proc("g Zero", "g_n")}}, "g c", 0, "g c"}, {Set{Procs: []Proc{proc("g ?n", "c_d")}}, "g c", 1, "g c"}, {Set{Procs: []Proc{proc("g ?n", "c_d")}}, "g c", 0, "8"},
		{Set{Procs: []Proc{proc("g ?n", "c_d"), proc("g c", "g_n")}}, "g c", 9, "c"}, {Set{Procs: []Proc{proc("?n + ?m", "swap")}}, "c + c", 9, "c + c"}, {Set{Procs: []Proc{proc("?n + ?m", "swap")}}, "c + d", 9, "8"}, {Set{Procs: []Proc{proc("?n :: nat", "d_c")}}, "f d d", 9, "f c c"},
		{Set{Rules: facts("g_n"), Procs: []Proc{proc("g ?n", "grow")}}, "g c", 1, "c"},
	} {
		rewritten(t, c.s, nil, c.x, 0, c.fuel, c.want)
	}
}

func TestP211Errors(t *testing.T) {
	thy := small()
	fine := facts("g_n")
	many := slices.Repeat(fine, 101)
	stranger := testlang.Axiom(testlang.Theory(theory.Pure(), "u", "z : u", "z_z : z == z"), "z_z")
	cong := standard(t).Congs[0]
	proc := Proc{read1("g ?n"), fine, conv.Expr{Kind: conv.Rule}}
	badPattern, badExpr := proc, proc
	badPattern.Pattern = api.Term{Op: api.Bound}
	badExpr.Expr = conv.Expr{}
	for i, c := range []struct {
		s    Set
		want api.Errno
	}{
		{Set{}, api.OK}, {Set{Rules: many[:100]}, api.OK}, {Set{Rules: many, Congs: many}, api.ErrCount}, {Set{Rules: []kernel.Theorem{{}}, Congs: many}, api.ErrCount}, {Set{Rules: []kernel.Theorem{{}}, Procs: slices.Repeat([]Proc{proc}, 101)}, api.ErrCount},
		{Set{Rules: []kernel.Theorem{{}, stranger}}, kernel.ErrNone}, {Set{Rules: []kernel.Theorem{stranger, {}}}, api.ErrTheory}, {Set{Rules: facts("var")}, ErrRule}, {Set{Rules: facts("more")}, ErrRule}, {Set{Rules: facts("p_c")}, ErrRule}, {Set{Rules: facts("other")}, ErrRule}, {Set{Rules: facts("two"), Congs: fine}, ErrRule}, {Set{Congs: []kernel.Theorem{cong, {}}}, kernel.ErrNone},
		{Set{Congs: []kernel.Theorem{cong}, Procs: []Proc{proc, badPattern}}, term.ErrLoose}, {Set{Procs: []Proc{proc, badExpr}}, api.ErrForm}, {Set{Procs: []Proc{{proc.Pattern, facts("p_c"), proc.Expr}}}, api.ErrArgument}, {Set{Procs: []Proc{proc}}, api.OK},
	} {
		if e := Check(thy, c.s); e != c.want {
			t.Error(i, e, "not", c.want)
		}
		if _, e := Rewrite(thy, c.s, many, api.Term{}, -1, -1); c.want != api.OK && e != c.want || c.want == api.OK && e != api.ErrCount {
			t.Error("Rewrite", i, e)
		}
	}
	none := Set{}
	if e := Check(theory.Pure(), Set{Rules: many}); e != api.ErrTheory {
		t.Error(e)
	}
	if _, e := Rewrite(thy, none, []kernel.Theorem{fine[0], {}}, api.Term{}, -1, 0); e != kernel.ErrNone {
		t.Error(e)
	}
	if _, e := Rewrite(thy, none, nil, api.Term{}, -1, 0); e != api.ErrForm {
		t.Error(e)
	}
	for _, c := range [][2]int{{-1, 0}, {6, 0}, {0, -1}, {0, 2001}} {
		if _, e := Rewrite(thy, none, nil, read1("c"), c[0], c[1]); e != api.ErrRange {
			t.Error(c, e)
		}
	}
	if th, e := Rewrite(thy, none, nil, read1("c"), 5, 2000); e != api.OK || !term.Equal(th.Prop(), read1("c == c")) {
		t.Error(e)
	}
}

func TestP211Large(t *testing.T) {
	big := read1("c")
	for range 199 {
		big = term.Apps(read1("g"), []api.Term{big})
	}
	if _, e := Rewrite(small(), Set{}, nil, big, 0, 0); e != api.ErrLarge { // too deep
		t.Error(e)
	}
	wide := func(n int) api.Term {
		l := slices.Repeat([]api.Term{read1("c")}, n)
		for len(l) > 1 {
			l = append(l[2:], term.Apps(read1("f"), l[:2]))
		}
		return l[0]
	}
	if nodes, _ := term.Size(wide(100)); nodes != 397 {
		t.Fatal(nodes)
	}
	if _, e := Rewrite(small(), Set{}, nil, wide(100), 0, 0); e != api.OK {
		t.Error(e)
	}
	if _, e := Rewrite(small(), Set{}, nil, wide(102), 0, 0); e != api.ErrLarge {
		t.Error(e)
	}
	redexes := read1("%x. f x x")
	two := term.Apps(redexes, []api.Term{wide(60)})
	if _, e := Rewrite(small(), Set{}, nil, two, 0, 0); e != api.ErrLarge {
		t.Error("a normal form that is too large", e)
	}
}

func TestP213Extract(t *testing.T) {
	thy := small()
	x := 0
	for name, want := range map[string]string{
		"p_c": "p c == True", "g_n": "g ?n == ?n", "var": "", "more": "", "all_p": "p ?x == True", "and_pq": "p c == True; |- (q c) ==> p d == False", "not_eq": "(c = d) == False", "eq_eq": "c == d", "two": "|- (p ?n) ==> |- (q ?n) ==> g ?n == Zero",
		"imp_p": "", "wide": "|- (EX (x::nat). x = ?n) ==> (?n = ?n) == True", "other": "",
	} {
		l, e := Extract(thy, facts(name)[0])
		if e != api.OK {
			t.Error(name, e)
		}
		if name == "two" {
			want = "|- p ?n ==> |- q ?n ==> g ?n == Zero"
		}
		var wants []api.Term
		for _, s := range strings.Split(want, ";") {
			if strings.TrimSpace(s) != "" {
				wants = append(wants, read1(s))
			}
		}
		if len(l) != len(wants) {
			t.Error(name, len(l), want)
			continue
		}
		for i, q := range l {
			x++
			if !term.Equal(q.Prop(), wants[i]) || testlang.Fault(q) != "" || q.Theory().Name != "T" {
				t.Error(name, testlang.Sequent(q), "not", want)
			}
			if Check(thy, Set{Rules: []kernel.Theorem{q}}) != api.OK {
				t.Error(name, "is no equation")
			}
		}
	}
	if x == 0 {
		t.Error("none")
	}
	rule, _ := hol.Rule("eq_True")
	if l, e := Extract(thy, rule); e != api.OK || len(l) != 1 || !term.Equal(l[0].Prop(), read1("|- ?P ==> (?P = True) == True")) {
		t.Error("a Var as the head", e)
	}
	none, _ := hol.Rule("not_not")
	if l, e := Extract(thy, none); e != api.OK || len(l) != 1 || l[0].Theory().Name != "T" {
		t.Error(e)
	}
}

// The hypotheses stay, also those that are conditions or assumed on the way.
func TestP213Hypotheses(t *testing.T) {
	thy := small()
	for _, c := range []struct{ hyp, want string }{{"|- (q c --> p c)", "|- (q c --> p c) |> |- q c ==> p c == True"}, {"|- (ALL (n::nat). p n)", ""}} {
		l, e := Extract(thy, testlang.Assumed(thy, c.hyp))
		if e != api.OK || len(l) != 1 || len(l[0].Hyps()) != 1 || testlang.Fault(l[0]) != "" {
			t.Error(c.hyp, e, l)
		}
	}
	// q c |- q c ==> p c
	a, _ := kernel.ImpIntro(read1("|- p d"), testlang.Assumed(thy, "|- q c"))
	b, _ := kernel.ImpElim(a, testlang.Assumed(thy, "|- p d"))
	for _, s := range []string{"|- q c", "|- p d"} {
		th, _ := kernel.ImpIntro(read1(s), b)
		both, _ := kernel.ImpElim(th, testlang.Assumed(thy, s))
		again, e := kernel.ImpIntro(read1("|- p c"), both)
		if e != api.OK {
			t.Fatal(e)
		}
		l, e := Extract(thy, again)
		if e != api.OK || len(l) != 1 || len(l[0].Hyps()) != len(again.Hyps()) || testlang.Fault(l[0]) != "" {
			t.Error(e)
		}
	}
}

func TestP213ExtractErrors(t *testing.T) {
	thy := small()
	if _, e := Extract(theory.Pure(), kernel.Theorem{}); e != api.ErrTheory {
		t.Error(e)
	}
	if _, e := Extract(thy, kernel.Theorem{}); e != kernel.ErrNone {
		t.Error(e)
	}
	if _, e := Extract(hol.HOL(), facts("p_c")[0]); e != api.ErrTheory {
		t.Error(e)
	}
	big := read1("p c")
	for range 100 {
		big = hol.And(read1("p c"), big)
	}
	th, _ := kernel.Assume(thy, hol.Truth(big))
	if _, e := Extract(thy, th); e != api.ErrLarge {
		t.Error(e)
	}
	if _, e := Rewrite(thy, Set{}, []kernel.Theorem{th}, read1("c"), 0, 0); e != api.ErrLarge {
		t.Error(e)
	}
}

func TestP213Cong(t *testing.T) {
	thy := small()
	for _, name := range []string{"conj_cong", "imp_cong", "if_cong"} {
		rule, _ := hol.Rule(name)
		th, e := Cong(thy, rule)
		if e != api.OK || Check(thy, Set{Congs: []kernel.Theorem{th}}) != api.OK || testlang.Fault(th) != "" || th.Theory().Name != "T" {
			t.Error(name, e)
		}
	}
	rule, _ := hol.Rule("if_cong")
	th, _ := Cong(thy, rule)
	if want := read1("?P == ?Q ==> (|- ?Q ==> (?x::?'a) == ?u) ==> (|- ~ ?Q ==> ?y == ?v) ==> (if ?P then ?x else ?y) == (if ?Q then ?u else ?v)"); !term.Equal(th.Prop(), want) {
		t.Error(testlang.Sequent(th))
	}
	for _, c := range []struct {
		prop string
		want api.Errno
	}{
		{"|- (?m = ?n) ==> |- (g ?m = g ?n)", api.OK}, {"|- (g ?m = g ?m)", api.OK}, {"?m == ?n ==> |- (g ?m = g ?n)", api.OK}, {"|- (?m = ?n) ==> g ?m == g ?n", ErrRule}, {"|- (?m = ?n) ==> |- (g ?n = g ?m)", ErrRule}, {"|- (?m = ?n) ==> |- (f ?m ?m = f ?n ?n)", ErrRule}, {"|- (?m = ?n) ==> |- (f ?m ?k = f ?n ?k)", api.OK},
		{"|- (?m = ?n) ==> |- (?m = ?n) ==> |- (g ?m = g ?n)", ErrRule}, {"|- (g ?m = g ?n)", ErrRule}, {"|- (c = c)", ErrRule}, {"|- p c", ErrRule}, {"|- (?m = ?n) ==> |- (?k = ?i) ==> |- (g ?m = g ?n)", ErrRule}, {"(|- p ?n ==> |- (?m = ?n)) ==> |- (g ?m = g ?n)", ErrRule}, {"(|- p ?m ==> |- (?m = ?n)) ==> |- (g ?m = g ?n)", api.OK},
		{"(p ?m == p ?m ==> |- (?m = ?n)) ==> |- (g ?m = g ?n)", ErrRule}, {"|- (?m = ?n) ==> |- (?m + c = ?n + c)", ErrRule}, {"(|- p ?j ==> |- (?m = ?n)) ==> |- (?k = ?j) ==> |- (f ?m ?k = f ?n ?j)", ErrRule}, {"|- (?k = ?j) ==> (|- p ?j ==> |- (?m = ?n)) ==> |- (f ?m ?k = f ?n ?j)", api.OK},
		{"(|- s ?k (?y::?'b) ==> |- (?m = ?n)) ==> |- (g ?m = g ?n)", ErrRule}, {"|- (?m = ?n) ==> |- (s ?m (?y::?'b) = s ?n ?y)", api.OK},
	} {
		th, e := Cong(thy, oracle(t, c.prop))
		if e != c.want || (e == api.OK) != th.Is() {
			t.Error(c.prop, e, "not", c.want)
		}
	}
	if _, e := Cong(thy, kernel.Theorem{}); e != kernel.ErrNone {
		t.Error(e)
	}
	if _, e := Cong(theory.Pure(), kernel.Theorem{}); e != api.ErrTheory {
		t.Error(e)
	}
}

// oracle states a proposition.
func oracle(t *testing.T, s string) kernel.Theorem {
	thy := small()
	thy.Oracles = []string{"orc"}
	th, e := kernel.Oracle(thy, "orc", testlang.Term(thy, s))
	if e != api.OK {
		t.Fatal(s, e)
	}
	// in a lesser theory than that of the calls it would have no place
	small := small()
	small.Axioms = append(small.Axioms, api.Axiom{Name: "stated", Prop: th.Prop()})
	return inSmall(t, small)
}

func inSmall(t *testing.T, thy api.Theory) kernel.Theorem {
	th, e := kernel.Assume(small(), thy.Axioms[len(thy.Axioms)-1].Prop)
	if e != api.OK {
		t.Fatal(e)
	}
	return th
}

func TestP211Ordered(t *testing.T) {
	thy := small()
	for name, want := range map[string]bool{"swap": true, "left": true, "assoc": false, "g_n": false, "c_d": false, "g_up": false, "two": false, "k_k": false} {
		if got, e := Ordered(thy, facts(name)[0]); e != api.OK || got != want {
			t.Error(name, got, e)
		}
	}
	if _, e := Ordered(thy, facts("p_c")[0]); e != ErrRule {
		t.Error(e)
	}
	if _, e := Ordered(thy, kernel.Theorem{}); e != kernel.ErrNone {
		t.Error(e)
	}
	if _, e := Ordered(theory.Pure(), kernel.Theorem{}); e != api.ErrTheory {
		t.Error(e)
	}
}

func TestP212Simplify(t *testing.T) {
	thy := small()
	s := standard(t)
	s.Rules = append(s.Rules, facts("g_n")...)
	th, e := Simplify(thy, s, testlang.Assumed(thy, "|- (p (g c) & True)"), 1, 50)
	if e != api.OK || !term.Equal(th.Prop(), read1("|- p c")) || len(th.Hyps()) != 1 || testlang.Fault(th) != "" {
		t.Error(testlang.Sequent(th), e)
	}
	if _, e := Simplify(thy, Set{Rules: slices.Repeat(facts("g_n"), 101)}, kernel.Theorem{}, -1, 0); e != kernel.ErrNone {
		t.Error(e)
	}
	if _, e := Simplify(thy, Set{Rules: slices.Repeat(facts("g_n"), 101)}, facts("p_c")[0], -1, 0); e != api.ErrCount {
		t.Error(e)
	}
	if _, e := Simplify(thy, s, facts("p_c")[0], -1, 0); e != api.ErrRange {
		t.Error(e)
	}
	if _, e := Simplify(theory.Pure(), s, facts("p_c")[0], 0, 0); e != api.ErrTheory {
		t.Error(e)
	}
}

// An equation with a Var in a hypothesis cannot be used below an abstraction, if it is instantiated by its variable.
func TestP212Hypotheses(t *testing.T) {
	thy := small()
	a, e := kernel.Assume(thy, read1("g ?n == ?n"))
	if e != api.OK {
		t.Fatal(e)
	}
	s := Set{Rules: []kernel.Theorem{a}}
	if _, e := Rewrite(thy, s, nil, read1("h (%x. g x)"), 0, 9); e != api.ErrFail {
		t.Error(e)
	}
	th, e := Rewrite(thy, s, nil, read1("h (%x. f x (g c))"), 0, 9)
	if e != api.OK || len(th.Hyps()) != 1 || !term.Equal(th.Hyps()[0], read1("g c == c")) || testlang.Fault(th) != "" {
		t.Error(testlang.Sequent(th), e)
	}
}

func TestP216Split(t *testing.T) {
	thy := small()
	for _, c := range []struct{ p, want string }{
		{"p (if q c then c else d)", "(q c --> p c) & (~ q c --> p d)"},
		{"f (if A then c else d) (if B then c else d) = (if A then c else d)", "(A --> f c (if B then c else d) = c) & (~ A --> f d (if B then c else d) = d)"},
		{"ALL x. p (if q x then c else (if A then x else d))", "16"}, {"ALL (x::nat). p (if A then c else x)", "16"}, {"ALL (x::nat). f x (if A then c else d) = (if A then c else d)", "(A --> (ALL x. f x c = c)) & (~ A --> (ALL x. f x d = d))"},
		{"if (if A then B else True) then p c else p d", "((if A then B else True) --> p c) & (~ (if A then B else True) --> p d)"}, {"p c", "16"}, {"(if A then g else (%x. x)) c = c", "(A --> g c = c) & (~ A --> (%x. x) c = c)"},
		{"(%x. p x) (if A then c else d)", "(A --> (%x. p x) c) & (~ A --> (%x. p x) d)"},
	} {
		th, e := Split(thy, read1(c.p))
		if c.want == "16" {
			if e != api.ErrFail {
				t.Error(c.p, e)
			}
			continue
		}
		if e != api.OK {
			t.Error(c.p, e)
			continue
		}
		a, b, _ := term.IsEq(th.Prop())
		if !term.Equal(a, read1(c.p)) || !term.Equal(b, read1(c.want)) || testlang.Fault(th) != "" || len(th.Hyps()) > 0 {
			t.Error(c.p, testlang.Sequent(th))
		}
	}
	if _, e := Split(theory.Pure(), api.Term{}); e != api.ErrTheory {
		t.Error(e)
	}
	if _, e := Split(thy, api.Term{}); e != api.ErrForm {
		t.Error(e)
	}
	if _, e := Split(thy, read1("if A then c else d")); e != api.ErrType {
		t.Error(e)
	}
}

// state is the state of a goal with one subgoal.
func state(t *testing.T, s string) kernel.Theorem {
	th, e := tactic.Goal(small(), read1(s))
	if e != api.OK {
		t.Fatal(s, e)
	}
	return th
}

func TestP211Goal(t *testing.T) {
	s := standard(t)
	s.Rules = append(s.Rules, facts("g_n")...)
	for i, c := range []struct{ goal, want string }{
		{"|- p c ==> |- p (g c)", ""}, {"!!x. |- p x ==> |- (q x & p (g x))", "!!x. |- p x ==> |- q x"}, {"!!x y. |- (x = (y::nat)) ==> |- p x ==> |- p y", "16"}, {"!!x. |- (x = c) ==> |- p x ==> |- p c", "!!x. |- (x = c) ==> |- p x ==> |- p c"},
		{"|- p c", "16"}, {"|- p (if A then c else c)", "|- ((A --> p c) & (~ A --> p c))"}, {"|- A ==> |- p (if A then c else d)", "|- A ==> |- p c"}, {"|- (A --> p c) ==> |- A ==> |- p c", ""}, {"|- p ?n ==> |- p ?n", "16"}, {"g c == c", "c == c"}, {"!!x. |- p x ==> (!!y. |- q y ==> |- (p x & q y & r))", "!!x y. |- p x ==> |- q y ==> |- r"},
		{"|- p (if A then c else d)", "|- ((A --> p c) & (~ A --> p d))"}, {"(!!x. |- p x) ==> |- p c", "16"}, {"|- (ALL x. p x) ==> |- p c", ""}, {"(%x. |- p x) c", "|- p c"},
	} {
		th, solved, e := Goal(s, state(t, c.goal), 0, 2, 200)
		if c.goal == "!!x. |- (x = c) ==> |- p x ==> |- p c" {
			c.want = "16" // x is rewritten to c in p x alone as an equation: p x == True does not match p c
		}
		if c.want == "16" {
			if e != api.ErrFail {
				t.Error(i, c.goal, e, testlang.Sequent(th))
			}
			continue
		}
		if e != api.OK || testlang.Fault(th) != "" || solved != (c.want == "") {
			t.Error(i, c.goal, e, solved, testlang.Fault(th))
			continue
		}
		goals, _ := term.Strip(th.Prop())
		if c.want == "" && len(goals) != 0 || c.want != "" && (len(goals) != 1 || !term.Equal(goals[0], read1(c.want))) {
			t.Error(i, c.goal, testlang.Sequent(th), "not", c.want)
		}
	}
}

func TestP211GoalErrors(t *testing.T) {
	s := state(t, "|- p c ==> |- p c")
	bad := Set{Rules: facts("p_c")}
	if _, _, e := Goal(bad, kernel.Theorem{}, -1, -1, 0); e != kernel.ErrNone {
		t.Error(e)
	}
	pure, _ := tactic.Goal(theory.Pure(), api.Term{Op: api.Free, Name: "A", Type: api.Type{Op: api.TCon, Name: "prop"}})
	if _, _, e := Goal(bad, pure, -1, -1, 0); e != api.ErrTheory {
		t.Error(e)
	}
	if _, _, e := Goal(bad, s, -1, -1, 0); e != ErrRule {
		t.Error(e)
	}
	for _, at := range []int{-1, 1, 1 << 40} {
		if _, _, e := Goal(Set{}, s, at, -1, 0); e != resolve.ErrSubgoal {
			t.Error(e)
		}
	}
	if _, _, e := Goal(Set{}, s, 0, -1, 0); e != api.ErrRange {
		t.Error(e)
	}
	if _, _, e := Goal(Set{}, s, 0, 0, 0); e != api.ErrFuel {
		t.Error(e)
	}
	if th, ok, e := Goal(Set{}, s, 0, 0, 1); e != api.OK || !ok || len(th.Hyps()) > 0 {
		t.Error(e)
	}
	// four splits at most
	five := "|- (if A then True else (if B then True else (if C then True else (if D then True else (if E then True else F)))))"
	th, _, e := Goal(standard(t), state(t, five), 0, 0, 50)
	if goals, _ := term.Strip(th.Prop()); e != api.OK || testlang.Fault(th) != "" || !term.Equal(goals[0], read1("|- (~ D --> ~ C --> ~ B --> ~ A --> (if E then True else F))")) {
		t.Error(e, testlang.Sequent(th))
	}
	// each simplification has the whole fuel
	if _, _, e := Goal(Set{Rules: facts("c_d")}, state(t, "|- p (if A then c else c)"), 0, 0, 1); e != api.ErrFuel {
		t.Error(e)
	}
	if _, _, e := Goal(Set{Rules: facts("g_n")}, state(t, "|- p (if p (g c) then c else d)"), 0, 0, 1); e != api.OK {
		t.Error(e)
	}
}

// Each case has so many conditionals fewer as are equal to the first one.
func TestP216Fewer(t *testing.T) {
	thy := small()
	ifs := func(x api.Term, like *api.Term) int {
		n := 0
		for k := range term.Nodes(x) {
			if isChoice(k) && (like == nil || term.Equal(k, *like)) {
				n++
			}
		}
		return n
	}
	for _, s := range []string{"p (if A then c else d)", "f (if A then c else d) (if A then c else d) = (if B then c else d)", "(ALL x. p (if A then x else d)) & q (if p (if B then c else d) then c else (if B then c else d))"} {
		p := read1(s)
		th, e := Split(thy, p)
		if e != api.OK {
			t.Fatal(s, e)
		}
		first, _ := firstChoice(p)
		_, l, _ := term.IsEq(th.Prop())
		_, both := hol.Connective(l)
		_, one := hol.Connective(both[0])
		_, two := hol.Connective(both[1])
		_, parts := term.Spine(first)
		inside := []int{ifs(parts[1], nil), ifs(parts[2], nil)}
		for i, x := range []api.Term{one[1], two[1]} {
			if got, want := ifs(x, nil), ifs(p, nil)-ifs(p, &first)*(1+ifs(parts[0], nil)+inside[1-i]); got != want {
				t.Error(s, i, got, want)
			}
		}
	}
}

// The hypotheses of equations come to the state; those that a parameter would be in have no place there.
func TestP212GoalHypotheses(t *testing.T) {
	thy := small()
	cd := testlang.Assumed(thy, "c == d")
	th, solved, e := Goal(Set{Rules: []kernel.Theorem{cd}}, state(t, "!!x. |- p x ==> |- p c"), 0, 1, 9)
	if e != api.OK || solved || testlang.Fault(th) != "" || len(th.Hyps()) != 1 || !term.Equal(th.Hyps()[0], read1("c == d")) {
		t.Error(testlang.Sequent(th), e)
	}
	th, solved, e = Goal(Set{Rules: []kernel.Theorem{cd}}, state(t, "|- p d ==> |- p c"), 0, 1, 9)
	if e != api.OK || !solved || testlang.Fault(th) != "" || len(th.Hyps()) != 1 {
		t.Error(testlang.Sequent(th), e)
	}
	open, e := kernel.Assume(thy, read1("g ?n == ?n"))
	if e != api.OK {
		t.Fatal(e)
	}
	if _, _, e := Goal(Set{Rules: []kernel.Theorem{open}}, state(t, "!!x. |- p (g x)"), 0, 1, 9); e != api.ErrFail {
		t.Error(e)
	}
	// the hypothesis of an equation may be an assumption, too
	th, solved, e = Goal(Set{Rules: []kernel.Theorem{cd}}, state(t, "c == d ==> |- p d ==> |- p c"), 0, 1, 9)
	if e != api.OK || !solved || testlang.Fault(th) != "" {
		t.Error(testlang.Sequent(th), e)
	}
	// two subgoals: the other one stays
	cut, _, _ := tactic.Run(thy, nil, tactic.Expr{Kind: tactic.Cut, Prop: read1("|- p (g c)")}, state(t, "|- q c"), 5, 1)
	th, _, e = Goal(Set{Rules: facts("g_n")}, cut[0], 0, 1, 9)
	if goals, _ := term.Strip(th.Prop()); e != api.OK || len(goals) != 2 || !term.Equal(goals[0], read1("|- p c")) || !term.Equal(goals[1], read1("|- p (g c) ==> |- q c")) {
		t.Error(testlang.Sequent(th), e)
	}
	th, _, e = Goal(Set{Rules: facts("g_n")}, cut[0], 1, 1, 9)
	if e != api.ErrFail {
		t.Error(testlang.Sequent(th), e)
	}
}

// The names of abstractions stay.
func TestP211Names(t *testing.T) {
	thy := small()
	for x, want := range map[string]string{"h (%y. g y)": "h (% y. y)", "h (%y. f y c)": "h (% y. f y c)", "h (%y. h (%z. f (g y) z))": "h (% y. h (f y))", "h (%y. h (%z. f z (g y)))": "h (% y. h (% z. f z y))"} {
		th, e := Rewrite(thy, Set{Rules: facts("g_n")}, nil, read1(x), 0, 50)
		if e != api.OK || testlang.Fault(th) != "" {
			t.Fatal(e)
		}
		_, y, _ := term.IsEq(th.Prop())
		if strings.Contains(x, "f (g y) z") {
			want = "h (% y. h (% z. f y z))"
		}
		if got := testlang.Text(thy, y); got != want {
			t.Error(got, "not", want)
		}
	}
}
