package kernel

import (
	"fmt"
	"math"
	"slices"
	"strings"
	"testing"

	"triforium/api"
	"triforium/proof"
	"triforium/term"
	"triforium/theory"
	"triforium/types"
)

// full writes out abbreviations: N stands for nat, P for prop, and F(..) for the type of functions.
func full(s string) string {
	return strings.NewReplacer("N", "nat", "P", "prop", "F(", "fun(").Replace(s)
}

func typ(s string) api.Type {
	r := types.Reader{Rest: full(s)}
	t, ok := r.Type()
	if !ok || r.Rest != "" {
		panic("no type: " + s)
	}
	return t
}

func of(s string) api.Term {
	t, e := term.Read(full(s))
	if e != api.OK {
		panic(fmt.Sprint("no term: ", s, " ", e))
	}
	return t
}

// imp and eq return the texts of an implication and of an equation.
func imp(a, b string) string { return "((imp:F(P, F(P, P)) " + a + ") " + b + ")" }

func eq(t, a, b string) string { return fmt.Sprintf("((eq:F(%s, F(%s, P)) %s) %s)", t, t, a, b) }

func all(t, body string) string { return fmt.Sprintf("(all:F(F(%s, P), P) (\\x:%s . %s))", t, t, body) }

func text(t api.Term) string {
	s, e := term.Text(t)
	if e != api.OK {
		return fmt.Sprint("error ", e)
	}
	return s
}

// small is Pure with the classes ord and lin below it, the constructors nat, list and pair, some constants, axioms and an oracle.
func small() api.Theory {
	t := theory.Pure()
	t.Name = "Small"
	t.Classes = []api.Class{{Name: "ord"}, {Name: "lin", Supers: []string{"ord"}}}
	t.Types = append(t.Types, api.TypeDecl{Name: "nat"}, api.TypeDecl{Name: "list", Arity: 1}, api.TypeDecl{Name: "pair", Arity: 2})
	t.Arities = []api.Arity{{Type: "nat", Class: "ord"}, {Type: "nat", Class: "lin"}, {Type: "list", Class: "ord", Sorts: [][]string{{"ord"}}}}
	for _, c := range []string{"z N", "s F(N, N)", "op F(?a.0, F(?a.0, ?a.0))", "le F(?a.0{ord}, F(?a.0{ord}, P))", "some ?a.0", "nil list(?a.0)"} {
		name, k, _ := strings.Cut(c, " ")
		t.Consts = append(t.Consts, api.ConstDecl{Name: name, Type: typ(k)})
	}
	t.Axioms = append(t.Axioms,
		api.Axiom{Name: "z_s", Prop: of(eq("N", "z:N", "(s:F(N, N) z:N)"))},
		api.Axiom{Name: "le_refl", Prop: of("((le:F(?a.0{ord}, F(?a.0{ord}, P)) ?x.0:?a.0{ord}) ?x.0:?a.0{ord})")},
		api.Axiom{Name: "op_com", Prop: of(eq("?a.0", "((op:F(?a.0, F(?a.0, ?a.0)) ?x.0:?a.0) ?y.0:?a.0)", "((op:F(?a.0, F(?a.0, ?a.0)) ?y.0:?a.0) ?x.0:?a.0)"))})
	t.Oracles = []string{"believe", "trust"}
	return t
}

// greater is small with more.
func greater() api.Theory {
	t, e := theory.Extend(small(), "Greater", api.Theory{Types: []api.TypeDecl{{Name: "bit"}}, Oracles: []string{"more"}, Axioms: []api.Axiom{{Name: "any", Prop: of("?A.0:P")}}})
	if e != api.OK {
		panic(e)
	}
	return t
}

// other is small with something that greater has not.
func other() api.Theory {
	t, e := theory.Extend(small(), "Other", api.Theory{Types: []api.TypeDecl{{Name: "bat"}}})
	if e != api.OK {
		panic(e)
	}
	return t
}

// ok returns a theorem that there has to be.
func ok(t Theorem, e api.Errno) Theorem {
	if e != api.OK || !t.Is() {
		panic(fmt.Sprint("no theorem: ", e))
	}
	return t
}

func assume(s string) Theorem { return ok(Assume(small(), of(s))) }

func refl(s string) Theorem { return ok(Reflexive(small(), of(s))) }

// state writes what a theorem states.
func state(t Theorem) string {
	var l []string
	for _, h := range t.Hyps() {
		l = append(l, text(h))
	}
	return strings.Join(l, "; ") + " |- " + text(t.Prop()) + " " + strings.Join(t.Oracles(), ",")
}

// says checks what a theorem states, by the texts of its hypotheses and its proposition, and oracles.
func says(t *testing.T, th Theorem, e api.Errno, hyps []string, prop string, oracles ...string) {
	t.Helper()
	var l []string
	for _, h := range hyps {
		l = append(l, full(h))
	}
	want := strings.Join(l, "; ") + " |- " + full(prop) + " " + strings.Join(oracles, ",")
	if e != api.OK || !th.Is() || state(th) != want {
		t.Error("\n", state(th), e, "\n", want)
	}
}

// fails checks that there is an error, and no theorem.
func fails(t *testing.T, th Theorem, e, want api.Errno) {
	t.Helper()
	if e != want || th.Is() || th != (Theorem{}) {
		t.Error(state(th), e, want)
	}
}

func proves(t *testing.T, th Theorem, want string) {
	t.Helper()
	if s, e := proof.Text(th.Proof()); e != api.OK || s != full(want) {
		t.Error(s, e, want)
	}
}

func TestP61Axiom(t *testing.T) {
	x, e := Axiom(small(), "z_s")
	says(t, x, e, nil, eq("N", "z:N", "(s:F(N, N) z:N)"))
	proves(t, x, "(axiom z_s)")
	x, e = Axiom(small(), "protect_def")
	says(t, x, e, nil, eq("P", "(protect:F(P, P) ?A.0:P)", "?A.0:P"))
	bad := small()
	bad.Name = ""
	for i, c := range []struct {
		thy  api.Theory
		name string
		e    api.Errno
	}{{small(), "none", api.ErrMissing}, {small(), "", api.ErrMissing}, {small(), "\xff", api.ErrMissing}, {bad, "none", api.ErrForm}, {api.Theory{Name: "T"}, "z_s", api.ErrTheory}, {theory.Pure(), "z_s", api.ErrMissing}} {
		x, e := Axiom(c.thy, c.name)
		if e != c.e || x.Is() {
			t.Error(i, e)
		}
	}
}

func TestP61OracleAndAssume(t *testing.T) {
	x, e := Oracle(small(), "trust", of("$A:P"))
	says(t, x, e, nil, "$A:P", "trust")
	proves(t, x, "(oracle trust [$A:P])")
	x, e = Assume(small(), of("$A:P"))
	says(t, x, e, []string{"$A:P"}, "$A:P")
	proves(t, x, "(assume [$A:P])")
	bad := small()
	bad.Oracles = []string{"a", "a"}
	for i, c := range []struct {
		thy  api.Theory
		name string
		a    string
		e    api.Errno
	}{
		{small(), "believe", "$A:P", api.OK}, {small(), "none", "$A:P", api.ErrMissing}, {small(), "none", "$A:N", api.ErrType}, {small(), "none", "($A:P $A:P)", api.ErrType},
		{small(), "none", "k:P", api.ErrMissing}, {small(), "believe", "k:P", api.ErrMissing}, {small(), "believe", "$x:set", api.ErrMissing}, {small(), "believe", "$x:'a{lin,ord}", api.ErrSort},
		{small(), "believe", "(\\x:N . $A:P)", api.ErrType}, {small(), "believe", "z:P", api.ErrType}, {bad, "none", "$A:N", api.ErrDuplicate},
	} {
		x, e := Oracle(c.thy, c.name, of(c.a))
		if e != c.e || x.Is() != (e == api.OK) {
			t.Error(i, e)
		}
		want := c.e
		if c.name == "none" && c.a == "$A:P" {
			want = api.OK
		}
		y, e := Assume(c.thy, of(c.a))
		if e != want || y.Is() != (e == api.OK) {
			t.Error(i, "Assume", e)
		}
	}
	if _, e := Assume(small(), api.Term{Op: api.Bound}); e != term.ErrLoose {
		t.Error(e)
	}
}

func TestP61Implications(t *testing.T) {
	a, ab := assume("$A:P"), assume(imp("$A:P", "$B:P"))
	x, e := ImpIntro(of("$A:P"), a)
	says(t, x, e, nil, imp("$A:P", "$A:P"))
	proves(t, x, "(impI [$A:P] (assume [$A:P]))")
	x, e = ImpIntro(of("$B:P"), a) // a premise that is no hypothesis
	says(t, x, e, []string{"$A:P"}, imp("$B:P", "$A:P"))
	x, e = ImpElim(ab, a)
	says(t, x, e, []string{"$A:P", imp("$A:P", "$B:P")}, "$B:P")
	proves(t, x, "(impE (assume ["+imp("$A:P", "$B:P")+"]) (assume [$A:P]))")
	both := ok(ImpElim(ok(ImpElim(assume(imp("$A:P", imp("$B:P", "$C:P"))), a)), assume("$B:P")))
	x, e = ImpIntro(of("$B:P"), both)
	says(t, x, e, []string{"$A:P", imp("$A:P", imp("$B:P", "$C:P"))}, imp("$B:P", "$C:P"))
	x, e = ImpIntro(of(all("N", eq("N", "#0", "#0"))), assume("(all:F(F(N, P), P) (\\other:N . ((eq:F(N, F(N, P)) #0) #0)))"))
	if e != api.OK || len(x.Hyps()) != 0 {
		t.Error("the names of bound variables", e)
	}
	for i, c := range []struct {
		a string
		b Theorem
		e api.Errno
	}{
		{"$A:P", Theorem{}, ErrNone}, {"$A:N", Theorem{}, ErrNone}, {"$A:N", a, api.ErrType}, {"k:P", a, api.ErrMissing}, {"z:N", a, api.ErrType},
		{eq("N", "$A:N", "$A:N"), a, api.ErrType}, {eq("'a{ord}", "$x:'a{ord}", "$x:'a{ord}"), refl("$y:'a"), api.ErrSort},
		{eq("'a{ord}", "$y:'a{ord}", "$y:'a{ord}"), refl("$y:'a"), api.ErrSort}, // sorts ahead of types
		{eq("?a.1", "?x.0:?a.1", "?x.0:?a.1"), refl("?x.0:?a.0"), api.ErrType}, {eq("?a.1", "?x.1:?a.1", "?x.1:?a.1"), refl("?x.0:?a.0"), api.OK},
		{eq("'a", "$x:'a", "$x:'a"), refl("?x.0:?a.0{ord}"), api.OK},
	} {
		x, e := ImpIntro(of(c.a), c.b)
		if e != c.e || x.Is() != (e == api.OK) {
			t.Error(i, e, c.e)
		}
	}
	for i, c := range []struct {
		ab, a Theorem
		e     api.Errno
	}{
		{Theorem{}, a, ErrNone}, {ab, Theorem{}, ErrNone}, {Theorem{}, Theorem{}, ErrNone}, {a, a, api.ErrFail}, {ab, assume("$B:P"), api.ErrFail}, {ab, ab, api.ErrFail}, {refl("$x:N"), a, api.ErrFail},
		{ab, refl("$A:N"), api.ErrType}, {ok(ImpIntro(of("$C:P"), refl("$x:'a{ord}"))), refl("$x:'a"), api.ErrSort},
		{ok(Assume(greater(), of(imp("$A:P", "$B:P")))), ok(Assume(other(), of("$A:P"))), api.ErrTheory},
		{ok(Assume(greater(), of(eq("N", "$A:N", "$A:N")))), ok(Assume(other(), of("$A:P"))), api.ErrTheory},
	} {
		x, e := ImpElim(c.ab, c.a)
		if e != c.e || x.Is() {
			t.Error(i, e, c.e)
		}
	}
}

func TestP61Quantifiers(t *testing.T) {
	x := refl("$x:N")
	a, e := AllIntro(of("$x:N"), x)
	says(t, a, e, nil, all("N", eq("N", "#0", "#0")))
	proves(t, a, "(allI [$x:N] (refl [$x:N]))")
	b, e := AllIntro(of("$y:N"), x)
	says(t, b, e, nil, "(all:F(F(N, P), P) (\\y:N . "+eq("N", "$x:N", "$x:N")+"))")
	b, e = AllIntro(of("$x:N"), assume("$A:P"))
	says(t, b, e, []string{"$A:P"}, all("N", "$A:P"))
	c, e := AllElim(of("(s:F(N, N) $y:N)"), a)
	says(t, c, e, nil, eq("N", "(s:F(N, N) $y:N)", "(s:F(N, N) $y:N)"))
	proves(t, c, "(allE [(s:F(N, N) $y:N)] (allI [$x:N] (refl [$x:N])))")
	hyp := assume(all("N", eq("N", "#0", "$x:N")))
	c, e = AllElim(of("$x:N"), hyp)
	says(t, c, e, []string{all("N", eq("N", "#0", "$x:N"))}, eq("N", "$x:N", "$x:N"))
	for i, c := range []struct {
		x string
		b Theorem
		e api.Errno
	}{
		{"$x:N", Theorem{}, ErrNone}, {"$x:N", hyp, api.ErrFail}, {"$x:P", hyp, api.ErrType}, {"z:N", x, api.ErrForm}, {"z:N", hyp, api.ErrForm}, {"?x.0:N", x, api.ErrForm}, {"(s:F(N, N) $x:N)", x, api.ErrForm},
		{"k:N", x, api.ErrMissing}, {"$x:set", x, api.ErrMissing}, {"$x:'a", refl("$y:'a{ord}"), api.ErrSort}, {"(\\x:P . $x:P)", x, api.ErrType}, {"$y:N", hyp, api.OK}, {"$x:list('a)", refl("$y:N"), api.OK},
	} {
		x, e := AllIntro(of(c.x), c.b)
		if e != c.e || x.Is() != (e == api.OK) {
			t.Error(i, e, c.e)
		}
	}
	for i, c := range []struct {
		t string
		b Theorem
		e api.Errno
	}{
		{"z:N", Theorem{}, ErrNone}, {"z:N", x, api.ErrFail}, {"$A:P", x, api.ErrFail}, {"$A:P", a, api.ErrType}, {"k:N", a, api.ErrMissing}, {"$x:P", hyp, api.ErrType}, {"$y:P", hyp, api.ErrType},
		{"z:N", assume("(all:F(F(N, P), P) $p:F(N, P))"), api.ErrFail}, {"$p:P", assume("(all:F(F(N, P), P) $p:F(N, P))"), api.ErrType}, {"z:N", a, api.OK}, {"some:N", a, api.OK}, {"some:?b.7", a, api.ErrType},
	} {
		x, e := AllElim(of(c.t), c.b)
		if e != c.e || x.Is() != (e == api.OK) {
			t.Error(i, e, c.e)
		}
	}
}

func TestP61Equations(t *testing.T) {
	ab, bc := assume(eq("N", "$a:N", "$b:N")), assume(eq("N", "$b:N", "$c:N"))
	x, e := Reflexive(small(), of("some:F(N, 'a)"))
	says(t, x, e, nil, eq("F(N, 'a)", "some:F(N, 'a)", "some:F(N, 'a)"))
	proves(t, x, "(refl [some:F(N, 'a)])")
	x, e = Symmetric(ab)
	says(t, x, e, []string{eq("N", "$a:N", "$b:N")}, eq("N", "$b:N", "$a:N"))
	proves(t, x, "(sym (assume ["+eq("N", "$a:N", "$b:N")+"]))")
	x, e = Transitive(ab, bc)
	says(t, x, e, []string{eq("N", "$a:N", "$b:N"), eq("N", "$b:N", "$c:N")}, eq("N", "$a:N", "$c:N"))
	fg := assume(eq("F(N, P)", "$f:F(N, P)", "$g:F(N, P)"))
	x, e = Combination(fg, ab)
	says(t, x, e, []string{eq("F(N, P)", "$f:F(N, P)", "$g:F(N, P)"), eq("N", "$a:N", "$b:N")}, eq("P", "($f:F(N, P) $a:N)", "($g:F(N, P) $b:N)"))
	x, e = Abstraction(of("$x:N"), refl("(s:F(N, N) $x:N)"))
	says(t, x, e, nil, eq("F(N, N)", "(\\x:N . (s:F(N, N) #0))", "(\\x:N . (s:F(N, N) #0))"))
	proves(t, x, "(abs [$x:N] (refl [(s:F(N, N) $x:N)]))")
	x, e = Abstraction(of("$x:P"), ab)
	says(t, x, e, []string{eq("N", "$a:N", "$b:N")}, eq("F(P, N)", "(\\x:P . $a:N)", "(\\x:P . $b:N)"))
	for i, c := range []struct {
		f func() (Theorem, api.Errno)
		e api.Errno
	}{
		{func() (Theorem, api.Errno) { return Reflexive(small(), of("k:N")) }, api.ErrMissing},
		{func() (Theorem, api.Errno) { return Reflexive(api.Theory{}, of("k:N")) }, api.ErrForm},
		{func() (Theorem, api.Errno) { return Symmetric(Theorem{}) }, ErrNone},
		{func() (Theorem, api.Errno) { return Symmetric(assume("$A:P")) }, api.ErrFail},
		{func() (Theorem, api.Errno) { return Transitive(Theorem{}, ab) }, ErrNone},
		{func() (Theorem, api.Errno) { return Transitive(ab, Theorem{}) }, ErrNone},
		{func() (Theorem, api.Errno) { return Transitive(ab, ab) }, api.ErrFail},
		{func() (Theorem, api.Errno) { return Transitive(ab, assume("$A:P")) }, api.ErrFail},
		{func() (Theorem, api.Errno) { return Transitive(assume("$A:P"), ab) }, api.ErrFail},
		{func() (Theorem, api.Errno) { return Transitive(ab, assume("$b:P")) }, api.ErrType},
		{func() (Theorem, api.Errno) { return Transitive(refl("$x:'a"), refl("$x:'a{ord}")) }, api.ErrSort},
		{func() (Theorem, api.Errno) { return Transitive(refl("$x:'a"), refl("$x:'b")) }, api.ErrType},
		{func() (Theorem, api.Errno) { return Transitive(refl("?x.0:?a.0"), refl("?x.0:?a.1")) }, api.ErrType},
		{func() (Theorem, api.Errno) { return Combination(Theorem{}, ab) }, ErrNone},
		{func() (Theorem, api.Errno) { return Combination(fg, Theorem{}) }, ErrNone},
		{func() (Theorem, api.Errno) { return Combination(assume("$A:P"), ab) }, api.ErrFail},
		{func() (Theorem, api.Errno) { return Combination(fg, assume("$A:P")) }, api.ErrFail},
		{func() (Theorem, api.Errno) { return Combination(ab, assume("$A:P")) }, api.ErrFail}, // what is wanted of ab is ahead of the types
		{func() (Theorem, api.Errno) { return Combination(ab, ab) }, api.ErrType},
		{func() (Theorem, api.Errno) { return Combination(fg, fg) }, api.ErrType},
		{func() (Theorem, api.Errno) { return Combination(fg, refl("$A:P")) }, api.ErrType},
		{func() (Theorem, api.Errno) { return Combination(refl("some:?a.0"), ab) }, api.ErrType},
		{func() (Theorem, api.Errno) { return Abstraction(of("$x:N"), Theorem{}) }, ErrNone},
		{func() (Theorem, api.Errno) { return Abstraction(of("$a:N"), ab) }, api.ErrFail},
		{func() (Theorem, api.Errno) { return Abstraction(of("$a:P"), ab) }, api.ErrType},
		{func() (Theorem, api.Errno) { return Abstraction(of("z:N"), assume("$A:P")) }, api.ErrForm},
		{func() (Theorem, api.Errno) { return Abstraction(of("$x:N"), assume("$A:P")) }, api.ErrFail},
		{func() (Theorem, api.Errno) { return Abstraction(of("$x:'a{ord}"), refl("$y:'a")) }, api.ErrSort},
	} {
		x, e := c.f()
		if e != c.e || x.Is() {
			t.Error(i, e, c.e)
		}
	}
}

func TestP61BetaAndEta(t *testing.T) {
	twice := "(\\y:N . ((op:F(N, F(N, N)) #0) #0))"
	x, e := Beta(small(), of("("+twice+" z:N)"))
	says(t, x, e, nil, eq("N", "("+twice+" z:N)", "((op:F(N, F(N, N)) z:N) z:N)"))
	proves(t, x, "(beta [("+twice+" z:N)])")
	x, e = Beta(small(), of("((\\y:N . (\\u:N . #1)) $y:N)"))
	says(t, x, e, nil, eq("F(N, N)", "((\\y:N . (\\u:N . #1)) $y:N)", "(\\u:N . $y:N)"))
	x, e = Eta(small(), of("(\\y:N . ($f:F(N, P) #0))"))
	says(t, x, e, nil, eq("F(N, P)", "(\\y:N . ($f:F(N, P) #0))", "$f:F(N, P)"))
	proves(t, x, "(eta [(\\y:N . ($f:F(N, P) #0))])")
	x, e = Eta(small(), of("(\\y:N . ((\\u:N . (s:F(N, N) #0)) #0))"))
	says(t, x, e, nil, eq("F(N, N)", "(\\y:N . ((\\u:N . (s:F(N, N) #0)) #0))", "(\\u:N . (s:F(N, N) #0))"))
	for i, s := range []string{"z:N", "(s:F(N, N) z:N)", "(\\y:N . ((\\u:N . #0) #0))", "((some:F(F(N, N), F(N, N)) (\\x:N . #0)) z:N)"} {
		x, e := Beta(small(), of(s))
		if e != api.ErrFail || x.Is() {
			t.Error(i, e)
		}
	}
	for i, s := range []string{"z:N", "(\\y:N . #0)", "((\\y:N . #0) z:N)", "(\\y:N . ($f:F(N, N) z:N))", "(\\y:N . (($f:F(N, F(N, P)) #0) #0))", "(\\y:N . (\\u:N . ($f:F(N, P) #0)))", "(\\u:N . (\\y:N . ($f:F(N, P) #1)))", "(\\y:N . ((\\u:N . (op:F(N, F(N, N)) #1)) #0))"} {
		x, e := Eta(small(), of(s))
		if e != api.ErrFail || x.Is() {
			t.Error(i, e)
		}
	}
	if _, e := Beta(small(), of("((\\y:N . #0) $A:P)")); e != api.ErrType {
		t.Error(e)
	}
	if _, e := Eta(small(), of("(\\y:N . (k:F(N, N) #0))")); e != api.ErrMissing {
		t.Error(e)
	}
}

func TestP61EqIntroAndElim(t *testing.T) {
	ab, ba := assume(imp("$A:P", "$B:P")), assume(imp("$B:P", "$A:P"))
	x, e := EqIntro(ab, ba)
	says(t, x, e, []string{imp("$A:P", "$B:P"), imp("$B:P", "$A:P")}, eq("P", "$A:P", "$B:P"))
	y, e := EqElim(x, assume("$A:P"))
	says(t, y, e, []string{"$A:P", imp("$A:P", "$B:P"), imp("$B:P", "$A:P")}, "$B:P")
	for i, c := range []struct {
		f    func(a, b Theorem) (Theorem, api.Errno)
		a, b Theorem
		e    api.Errno
	}{
		{EqIntro, ab, ab, api.ErrFail}, {EqIntro, ab, x, api.ErrFail}, {EqIntro, assume("$A:P"), ba, api.ErrFail}, {EqIntro, ab, assume(imp("$B:P", "$C:P")), api.ErrFail}, {EqIntro, ab, assume(imp("$C:P", "$A:P")), api.ErrFail},
		{EqIntro, Theorem{}, ba, ErrNone}, {EqIntro, ab, Theorem{}, ErrNone}, {EqIntro, ab, assume(imp("$B:P", eq("N", "$A:N", "$A:N"))), api.ErrType},
		{EqElim, ab, assume("$A:P"), api.ErrFail}, {EqElim, x, assume("$B:P"), api.ErrFail}, {EqElim, refl("$x:N"), assume("$A:P"), api.ErrFail}, {EqElim, Theorem{}, ba, ErrNone}, {EqElim, x, Theorem{}, ErrNone},
		{EqElim, x, refl("$A:N"), api.ErrType},
	} {
		y, e := c.f(c.a, c.b)
		if e != c.e || y.Is() {
			t.Error(i, e, c.e)
		}
	}
}

// bindsOf reads binds: of types as "a.0 text", of terms as "x.0 text".
func typeBinds(l ...string) []api.TypeBind {
	var out []api.TypeBind
	for _, s := range l {
		v, k, _ := strings.Cut(s, " ")
		t := typ("?" + v)
		out = append(out, api.TypeBind{Name: t.Name, Index: t.Index, To: typ(k)})
	}
	return out
}

func termBinds(l ...string) []api.TermBind {
	var out []api.TermBind
	for _, s := range l {
		v, x, _ := strings.Cut(s, " ")
		t := typ("?" + v)
		out = append(out, api.TermBind{Name: t.Name, Index: t.Index, To: of(x)})
	}
	return out
}

// many returns n binds of types, and of terms.
func many(n int) ([]api.TypeBind, []api.TermBind) {
	var k []api.TypeBind
	var l []api.TermBind
	for i := range n {
		k = append(k, api.TypeBind{Name: "q", Index: i, To: typ("N")})
		l = append(l, api.TermBind{Name: "q", Index: i, To: of("z:N")})
	}
	return k, l
}

func TestP61Instantiate(t *testing.T) {
	le := ok(Axiom(small(), "le_refl"))
	x, e := Instantiate(api.Inst{Types: typeBinds("a.0 N"), Terms: termBinds("x.0 (s:F(N, N) $y:N)")}, le)
	says(t, x, e, nil, "((le:F(N, F(N, P)) (s:F(N, N) $y:N)) (s:F(N, N) $y:N))")
	proves(t, x, "(inst <a.0=[N] | x.0=[(s:F(N, N) $y:N)]> (axiom le_refl))")
	x, e = Instantiate(api.Inst{Types: typeBinds("a.0 list(?a.0{ord})", "b.0 'q", "a.1 P"), Terms: termBinds("y.0 z:N")}, le) // others change nothing
	says(t, x, e, nil, "((le:F(list(?a.0{ord}), F(list(?a.0{ord}), P)) ?x.0:list(?a.0{ord})) ?x.0:list(?a.0{ord}))")
	x, e = Instantiate(api.Inst{}, le)
	says(t, x, e, nil, "((le:F(?a.0{ord}, F(?a.0{ord}, P)) ?x.0:?a.0{ord}) ?x.0:?a.0{ord})")
	// hypotheses become instances, too: some become one, and they are in order again
	h := ok(ImpElim(ok(ImpElim(assume(imp("?A.0:P", imp("?B.0:P", "?C.0:P"))), assume("?A.0:P"))), assume("?B.0:P")))
	x, e = Instantiate(api.Inst{Terms: termBinds("A.0 $X:P", "B.0 $X:P", "C.0 ?A.0:P")}, h)
	says(t, x, e, []string{"$X:P", imp("$X:P", imp("$X:P", "?A.0:P"))}, "?A.0:P")
	x, e = Instantiate(api.Inst{Terms: termBinds("A.0 $Y:P", "B.0 $X:P")}, h)
	says(t, x, e, []string{"$X:P", "$Y:P", imp("$Y:P", imp("$X:P", "?C.0:P"))}, "?C.0:P")
	hundred, hundredTerms := many(100)
	more, moreTerms := many(101)
	loose := []api.TermBind{{Name: "x", To: api.Term{Op: api.Bound}}}
	noType := []api.TypeBind{{Name: "a"}}
	for i, c := range []struct {
		i api.Inst
		e api.Errno
	}{
		{api.Inst{Types: hundred, Terms: hundredTerms}, api.OK}, {api.Inst{Types: more, Terms: loose}, api.ErrCount}, {api.Inst{Types: noType, Terms: moreTerms}, api.ErrCount},
		{api.Inst{Types: typeBinds("b.0 set", "b.0 N"), Terms: loose}, api.ErrDuplicate}, {api.Inst{Types: noType, Terms: termBinds("y.0 z:N", "x.0 z:N", "y.0 z:N")}, api.ErrDuplicate},
		{api.Inst{Types: typeBinds("b.0 N", "b.1 N"), Terms: termBinds("b.0 z:N")}, api.OK},
		{api.Inst{Types: noType, Terms: loose}, api.ErrForm}, {api.Inst{Types: typeBinds("c.0 set"), Terms: loose}, api.ErrMissing}, {api.Inst{Types: typeBinds("a.0 P"), Terms: loose}, api.ErrSort},
		{api.Inst{Types: typeBinds("a.0 P", "b.0 set")}, api.ErrSort}, {api.Inst{Types: typeBinds("b.0 set", "a.0 P")}, api.ErrMissing}, // bind by bind
		{api.Inst{Types: typeBinds("a.0 'b")}, api.ErrSort}, {api.Inst{Types: typeBinds("a.0 'b{lin}")}, api.OK}, {api.Inst{Types: typeBinds("a.0 list(P)")}, api.ErrSort}, {api.Inst{Types: typeBinds("a.1 P")}, api.OK},
		{api.Inst{Types: typeBinds("a.0 pair(?b.0, ?b.0{ord})")}, api.ErrSort},
		{api.Inst{Terms: loose}, term.ErrLoose}, {api.Inst{Terms: termBinds("x.0 z:N")}, api.ErrType}, {api.Inst{Types: typeBinds("a.0 N"), Terms: termBinds("x.0 z:N")}, api.OK},
		{api.Inst{Types: typeBinds("a.0 N"), Terms: termBinds("x.0 $y:?a.0{ord}")}, api.ErrType}, {api.Inst{Terms: termBinds("x.0 $y:?a.0{ord}")}, api.OK}, {api.Inst{Terms: termBinds("x.0 $y:?a.0")}, api.ErrType},
		{api.Inst{Terms: termBinds("x.1 $y:?a.0")}, api.OK},                           // what is not there is not put in
		{api.Inst{Terms: termBinds("x.0 some:?a.0{ord}", "y.0 k:N")}, api.ErrMissing}, // also of what is not there
		{api.Inst{Types: typeBinds("a.0 ?a.0{lin}")}, api.OK}, {api.Inst{Types: typeBinds("a.0 ?a.0")}, api.ErrSort},
	} {
		x, e := Instantiate(c.i, le)
		if e != c.e || x.Is() != (e == api.OK) {
			t.Error(i, e, c.e)
		}
	}
	fails2 := func(i api.Inst, b Theorem, want api.Errno) {
		t.Helper()
		x, e := Instantiate(i, b)
		fails(t, x, e, want)
	}
	fails2(api.Inst{Types: more}, Theorem{}, ErrNone)
	// what is put in does not fit to the rest
	two := refl("((op:F(N, F(N, N)) ?x.0:N) $y:N)")
	fails2(api.Inst{Terms: termBinds("x.0 (some:F(P, N) $y:P)")}, two, api.ErrType)
	fails2(api.Inst{Terms: termBinds("x.0 (some:F(N, N) ?z.0:N)")}, ok(ImpIntro(of(eq("P", "?z.0:P", "?z.0:P")), two)), api.ErrType)
	sorted := refl("((some:F(?a.0{ord}, F(?b.0, N)) ?x.0:?a.0{ord}) ?y.0:?b.0)")
	fails2(api.Inst{Types: typeBinds("b.0 ?a.0")}, sorted, api.ErrSort)
	fails2(api.Inst{Types: typeBinds("b.0 ?a.0"), Terms: termBinds("x.0 (some:F(N, ?a.0{ord}) $y:N)", "y.0 $y:?a.0")}, sorted, api.ErrSort) // sorts ahead of types
	x, e = Instantiate(api.Inst{Types: typeBinds("a.0 ?b.0{ord}", "b.0 ?a.0")}, sorted)
	says(t, x, e, nil, strings.NewReplacer("?a.0{ord}", "?b.0{ord}", "?b.0", "?a.0").Replace(state(sorted)[4:len(state(sorted))-1]))
}

func TestP61Generalize(t *testing.T) {
	x, e := Generalize([]string{"a", "q"}, []string{"x", "w"}, 3, refl("((some:F('a{ord}, F('b, N)) $x:'a{ord}) $y:'b)"))
	f := "((some:F(?a.3{ord}, F('b, N)) ?x.3:?a.3{ord}) $y:'b)"
	says(t, x, e, nil, eq("N", f, f))
	proves(t, x, "(gen 3 <a q | x w> (refl [((some:F('a{ord}, F('b, N)) $x:'a{ord}) $y:'b)]))")
	x, e = Generalize(nil, nil, 0, assume("$A:P"))
	says(t, x, e, []string{"$A:P"}, "$A:P")
	var many []string
	for i := range 101 {
		many = append(many, fmt.Sprint("n", i))
	}
	hyp := ok(ImpElim(ok(ImpIntro(of(eq("'a", "$x:'a", "?y.1:'a")), refl("?z.2:?c.2"))), assume(eq("'a", "$x:'a", "?y.1:'a"))))
	hyp2 := ok(ImpElim(ok(ImpIntro(of(eq("?d.4", "some:?d.4", "some:?d.4")), refl("$u:'e"))), refl("some:?d.4")))
	hyp2 = ok(ImpElim(ok(ImpIntro(of(eq("?d.4", "some:?d.4", "some:?d.4")), hyp2)), assume(eq("?d.4", "some:?d.4", "some:?d.4"))))
	for i, c := range []struct {
		types, terms []string
		n            int
		b            Theorem
		e            api.Errno
	}{
		{nil, nil, -1, Theorem{}, ErrNone}, {many, many, -1, hyp, api.ErrRange}, {many, many, 1000001, hyp, api.ErrRange}, {nil, nil, math.MinInt, hyp, api.ErrRange}, {nil, nil, 1000000, hyp, api.OK},
		{many, nil, 0, hyp, api.ErrCount}, {[]string{"a", "a"}, many, 0, hyp, api.ErrCount}, {many[1:], many[1:], 0, hyp, api.OK}, {[]string{"b", "b"}, nil, 0, hyp, api.ErrDuplicate}, {nil, []string{"x", "y", "x"}, 0, hyp, api.ErrDuplicate},
		{[]string{"x"}, []string{"a"}, 0, hyp, api.OK}, {[]string{"a"}, nil, 0, hyp, api.ErrFail}, {nil, []string{"x"}, 0, hyp, api.ErrFail}, // in a hypothesis
		{nil, []string{"y"}, 1, hyp, api.ErrFail}, {nil, []string{"y"}, 2, hyp, api.OK}, {nil, []string{"z"}, 2, hyp, api.ErrFail}, {nil, []string{"z"}, 1, hyp, api.OK}, {[]string{"c"}, nil, 2, hyp, api.ErrFail}, {[]string{"c"}, nil, 3, hyp, api.OK},
		{[]string{"y", "z"}, nil, 2, hyp, api.OK}, {nil, []string{"c"}, 2, hyp, api.OK}, // types and terms apart
		{[]string{"d"}, nil, 4, hyp2, api.ErrFail}, {[]string{"d"}, nil, 3, hyp2, api.OK}, {[]string{"e"}, []string{"u"}, 4, hyp2, api.OK},
		{[]string{""}, []string{"\xff", strings.Repeat("a", 99)}, 0, hyp, api.OK}, // what is no name does not occur
	} {
		x, e := Generalize(c.types, c.terms, c.n, c.b)
		if e != c.e || x.Is() != (e == api.OK) {
			t.Error(i, e, c.e)
		}
	}
}

func TestP61Theories(t *testing.T) {
	s, g, o := assume("$A:P"), ok(Assume(greater(), of(imp("$A:P", "$B:P")))), ok(Assume(other(), of("$A:P")))
	for i, c := range []struct {
		a, b Theorem
		name string
	}{{g, s, "Greater"}, {assume(imp("$A:P", "$B:P")), ok(Transfer(greater(), s)), "Greater"}, {assume(imp("$A:P", "$B:P")), o, "Other"}, {assume(imp("$A:P", "$B:P")), s, "Small"}} {
		x, e := ImpElim(c.a, c.b)
		if e != api.OK || x.Theory().Name != c.name {
			t.Error(i, e, x.Theory().Name)
		}
	}
	// of theories within each other the second one counts
	renamed := small()
	renamed.Name = "Renamed"
	if x, e := ImpElim(ok(Assume(renamed, of(imp("$A:P", "$B:P")))), s); e != api.OK || x.Theory().Name != "Small" {
		t.Error(e, x.Theory().Name)
	}
	x, e := ImpElim(g, o)
	fails(t, x, e, api.ErrTheory)
	x, e = Transitive(g, o) // ahead of what the rule wants
	fails(t, x, e, api.ErrTheory)
	x, e = Transfer(greater(), s)
	says(t, x, e, []string{"$A:P"}, "$A:P")
	proves(t, x, "(assume [$A:P])")
	if !theory.Within(greater(), x.Theory()) || x.Theory().Name != "Greater" {
		t.Error(x.Theory().Name)
	}
	if x, e := Transfer(renamed, s); e != api.OK || x.Theory().Name != "Renamed" {
		t.Error(e)
	}
	bad := greater()
	bad.Types = bad.Types[:1]
	for i, c := range []struct {
		thy api.Theory
		b   Theorem
		e   api.Errno
	}{{bad, Theorem{}, ErrNone}, {bad, s, theory.Check(bad)}, {theory.Pure(), s, api.ErrTheory}, {other(), g, api.ErrTheory}, {small(), g, api.ErrTheory}, {greater(), Theorem{}, ErrNone}} {
		x, e := Transfer(c.thy, c.b)
		if e != c.e || e == api.OK || x.Is() {
			t.Error(i, e, c.e)
		}
	}
	// terms are taken in the theory of the result
	if _, e := ImpIntro(of(eq("bit", "$b:bit", "$b:bit")), s); e != api.ErrMissing {
		t.Error(e)
	}
	if _, e := ImpIntro(of(eq("bit", "$b:bit", "$b:bit")), g); e != api.OK {
		t.Error(e)
	}
	if x, e := Instantiate(api.Inst{Types: typeBinds("a.0 bit")}, ok(Axiom(small(), "op_com"))); e != api.ErrMissing || x.Is() {
		t.Error(e)
	}
}

func TestP61None(t *testing.T) {
	var x Theorem
	if x.Is() || theory.Within(x.Theory(), theory.Pure()) && x.Theory().Name != "" || len(x.Hyps())+len(x.Oracles()) != 0 || x.Prop().Op != 0 || x.Proof().Op != 0 {
		t.Error("the zero value")
	}
	if (Base{}).Theory().Name != "" {
		t.Error("the zero base")
	}
	if _, e := (Base{}).Assume(of("$A:P")); e != api.ErrForm {
		t.Error(e)
	}
	if b, e := On(api.Theory{Name: "T"}); e != api.ErrTheory || b != (Base{}) {
		t.Error(e)
	}
}

// The methods of a base do what the functions do in its theory.
func TestP61Base(t *testing.T) {
	b, e := On(small())
	if e != api.OK || b.Theory().Name != "Small" {
		t.Fatal(e)
	}
	for i, s := range []string{"$A:P", "z:N", "k:N", "((\\x:N . #0) z:N)", "(\\x:N . (s:F(N, N) #0))"} {
		for k, f := range []struct {
			one func(api.Term) (Theorem, api.Errno)
			two func(api.Theory, api.Term) (Theorem, api.Errno)
		}{{b.Assume, Assume}, {b.Reflexive, Reflexive}, {b.Beta, Beta}, {b.Eta, Eta}} {
			x, e := f.one(of(s))
			y, e2 := f.two(small(), of(s))
			if e != e2 || state(x) != state(y) || !proof.Equal(x.Proof(), y.Proof()) {
				t.Error(i, k, e, e2)
			}
		}
	}
	x, e := b.Axiom("z_s")
	y, e2 := b.Oracle("trust", of("$A:P"))
	if e != api.OK || e2 != api.OK || state(x) != state(ok(Axiom(small(), "z_s"))) || state(y) != state(ok(Oracle(small(), "trust", of("$A:P")))) {
		t.Error(e, e2)
	}
	z, e := x.Base().Transfer(y)
	if e != api.OK || state(z) != state(y) {
		t.Error(e)
	}
	if _, e := ok(Axiom(greater(), "z_s")).Base().Transfer(y); e != api.OK {
		t.Error(e)
	}
	if _, e := b.Transfer(ok(Axiom(greater(), "z_s"))); e != api.ErrTheory {
		t.Error(e)
	}
}

func TestP61Play(t *testing.T) {
	a := of("$A:P")
	script := []Step{
		{Rule: api.Assume, Term: a},                                                           // 0
		{Rule: api.ImpIntro, Term: a, From: []int{0}},                                         // 1
		{Rule: api.ByAxiom, Theory: 1, Name: "any"},                                           // 2
		{Rule: api.Instantiate, Inst: api.Inst{Terms: termBinds("A.0 $A:P")}, From: []int{2}}, // 3
		{Rule: api.ImpElim, From: []int{1, 3}},                                                // 4
		{Rule: api.Generalize, TermNames: []string{"A"}, Num: 2, From: []int{4}},              // 5
		{Rule: TransferRule, Theory: 1, From: []int{0}},                                       // 6
		{Rule: 0}, {Rule: 20}, {Rule: -1, From: []int{7}}, {Rule: math.MaxInt}, // 7 to 10
		{Rule: api.Assume, Theory: 2, Term: a}, {Rule: api.Assume, Theory: -1, From: []int{9}}, {Rule: api.Assume, From: []int{0}}, // 11 to 13
		{Rule: api.ImpIntro, Theory: 77, Term: a, From: []int{0}}, // 14: takes no theory
		{Rule: api.Symmetric}, {Rule: api.Symmetric, From: []int{0, 0}}, {Rule: api.Symmetric, From: []int{17}}, {Rule: api.Symmetric, From: []int{-1}}, {Rule: api.Symmetric, From: []int{7}}, {Rule: api.ImpElim, From: []int{7, 99}}, // 15 to 20
		{Rule: api.Symmetric, From: []int{0}}, {Rule: TransferRule, Theory: 9, From: []int{}}, {Rule: TransferRule, Theory: 0, From: []int{7}}, {Rule: TransferRule, From: []int{2}}, // 21 to 24
		{Rule: api.ByOracle, Name: "more", Term: a}, {Rule: api.ByOracle, Theory: 1, Name: "more", Term: a}, {Rule: api.Reflexive, Theory: 3, Term: a}, // 25 to 27
		{Rule: api.Assume, Term: a, Name: "n", Num: 7, TypeNames: []string{"q"}, TermNames: []string{"q"}, Inst: api.Inst{Types: typeBinds("a.0 N")}}, // 28
		{Rule: api.Assume, Theory: 2, Term: a}, // 29
	}
	bad := small()
	bad.Name = "1"
	l := Play([]api.Theory{small(), greater(), bad}, script)
	var codes []api.Errno
	for i, r := range l {
		codes = append(codes, r.Code)
		if r.Theorem.Is() != (r.Code == api.OK) {
			t.Error(i)
		}
	}
	want := []api.Errno{0, 0, 0, 0, 0, 0, 0, 1, 1, 1, 1, 2, 4, 5, 0, 5, 5, 4, 4, 80, 4, 16, 4, 80, 15, 9, 0, 4, 0, 2}
	if !slices.Equal(codes, want) {
		t.Error(codes, "\n", want)
	}
	says(t, l[4].Theorem, 0, nil, "$A:P")
	says(t, l[5].Theorem, 0, nil, "?A.2:P")
	proves(t, l[28].Theorem, "(assume [$A:P])") // what a rule does not take plays no part
	if len(Play(nil, nil)) != 0 {
		t.Error("no steps")
	}
	if l := Play(nil, []Step{{Rule: api.Assume, Term: a}, {Rule: api.Symmetric, From: []int{0}}}); l[0].Code != api.ErrRange || l[1].Code != ErrNone {
		t.Error(l)
	}
	long := make([]Step, 300)
	for i := range long {
		long[i] = Step{Rule: api.Assume, Term: a}
	}
	if l := Play([]api.Theory{small()}, long); len(l) != 300 || l[299].Code != api.OK {
		t.Error(len(l))
	}
	l = Play([]api.Theory{small()}, append(long, Step{}))
	if len(l) != 301 || slices.ContainsFunc(l, func(r Result) bool { return r.Code != api.ErrCount || r.Theorem.Is() }) {
		t.Error(len(l))
	}
}

func TestP61Examples(t *testing.T) {
	x, e := ImpIntro(of("$A:P"), assume("$A:P"))
	says(t, x, e, nil, imp("$A:P", "$A:P"))
	proves(t, x, "(impI [$A:P] (assume [$A:P]))")
	x, e = AllIntro(of("$x:'a"), refl("$x:'a"))
	says(t, x, e, nil, all("'a", eq("'a", "#0", "#0")))
}

// P6.5: what a method returned, and what a function was given, can be changed without changing the theorem.
func TestP65Own(t *testing.T) {
	a, thy := of(all("list('a{ord})", imp("$A:P", "$A:P"))), small()
	i := api.Inst{Types: typeBinds("b.0 list(N)"), Terms: termBinds("x.0 (some:F(N, N) z:N)")}
	names, names2 := []string{"q"}, []string{"r"}
	x := ok(Assume(thy, a))
	y := ok(ImpElim(ok(ImpIntro(a, ok(Oracle(thy, "trust", a)))), x))
	z := ok(Generalize(names, names2, 0, ok(Instantiate(i, y))))
	before := func() string {
		s, _ := proof.Text(z.Proof())
		return fmt.Sprint(state(x), state(y), state(z), s, z.Theory(), x.Theory())
	}
	s := before()
	spoilTerm(&a)
	spoilTheory(&thy)
	spoilType(&i.Types[0].To)
	spoilTerm(&i.Terms[0].To)
	names[0], names2[0], i.Types[0].Name, i.Terms[0].Name = "spoilt", "spoilt", "spoilt", "spoilt"
	for _, h := range z.Hyps() {
		spoilTerm(&h)
	}
	p, k, l := z.Prop(), z.Theory(), z.Oracles()
	spoilTerm(&p)
	spoilTheory(&k)
	l[0] = "spoilt"
	hyps := z.Hyps()
	hyps[0] = api.Term{}
	q := z.Proof()
	spoilProof(&q)
	if before() != s {
		t.Error("a theorem was changed")
	}
	// parts of one result share no memory
	q = z.Proof()
	left, right := &q.Kids[0].Kids[0].Kids[0], &q.Kids[0].Kids[0].Kids[1]
	spoilProof(left)
	if text(right.Term) != text(x.Prop()) {
		t.Error("parts of a proof share memory")
	}
	hyps, p = x.Hyps(), x.Prop()
	spoilTerm(&hyps[0])
	if text(p) != text(x.Prop()) {
		t.Error("hypotheses and propositions share memory")
	}
	e := refl("(s:F(N, N) z:N)").Prop()
	spoilTerm(&e.Kids[0].Kids[1])
	if text(e.Kids[1]) != full("(s:F(N, N) z:N)") {
		t.Error("sides share memory")
	}
	r := e.Kids[0].Kids[0].Type
	r.Args[0].Name = "spoilt"
	if r.Args[1].Args[0].Name != "nat" {
		t.Error("types share memory")
	}
}

func spoilTheory(t *api.Theory) {
	for i := range t.Classes {
		t.Classes[i].Name = "spoilt"
		for k := range t.Classes[i].Supers {
			t.Classes[i].Supers[k] = "spoilt"
		}
	}
	for i := range t.Types {
		t.Types[i].Name = "spoilt"
	}
	for i := range t.Arities {
		for _, s := range t.Arities[i].Sorts {
			s[0] = "spoilt"
		}
		t.Arities[i].Sorts, t.Arities[i].Type = nil, "spoilt"
	}
	for i := range t.Consts {
		spoilType(&t.Consts[i].Type)
		t.Consts[i].Name = "spoilt"
	}
	for i := range t.Axioms {
		spoilTerm(&t.Axioms[i].Prop)
		t.Axioms[i].Name = "spoilt"
	}
	for i := range t.Oracles {
		t.Oracles[i] = "spoilt"
	}
}

func spoilProof(p *api.Proof) {
	spoilTerm(&p.Term)
	for i := range p.Inst.Types {
		spoilType(&p.Inst.Types[i].To)
		p.Inst.Types[i].Name = "spoilt"
	}
	for i := range p.Inst.Terms {
		spoilTerm(&p.Inst.Terms[i].To)
		p.Inst.Terms[i].Name = "spoilt"
	}
	for _, l := range [][]string{p.TypeNames, p.TermNames} {
		for i := range l {
			l[i] = "spoilt"
		}
	}
	for i := range p.Kids {
		spoilProof(&p.Kids[i])
	}
	p.Op = 99
}

func spoilTerm(t *api.Term) {
	spoilType(&t.Type)
	for i := range t.Kids {
		spoilTerm(&t.Kids[i])
	}
	t.Op, t.Name = 99, "spoilt"
}

func spoilType(t *api.Type) {
	for i := range t.Sort {
		t.Sort[i] = "spoilt"
	}
	for i := range t.Args {
		spoilType(&t.Args[i])
	}
	t.Op, t.Name = 99, "spoilt"
}

// What upper layers ask a Base for.
func TestP61BaseSign(t *testing.T) {
	b, e := On(small())
	pure, f := On(theory.Pure())
	if e != api.OK || f != api.OK {
		t.Fatal(e, f)
	}
	if !pure.Within(b) || b.Within(pure) || !b.Within(b) || !(Base{}).Within(b) || b.Within(Base{}) || !(Base{}).Within(Base{}) {
		t.Error("Within")
	}
	if _, ok := b.Sign().Const("imp"); !ok {
		t.Error("Sign")
	}
	if _, e := (Base{}).Sign().Check(of("imp:F(P, F(P, P))")); e == api.OK {
		t.Error("the zero value has nothing")
	}
	x, _ := b.Assume(of("$A:P"))
	if x.Base() != b {
		t.Error("Base")
	}
}
