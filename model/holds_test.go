package model

import (
	"fmt"
	"slices"
	"strings"
	"testing"

	"triforium/api"
	"triforium/theory"
	"triforium/types"
)

// assignment writes an assignment.
func assignment(a Assign) string {
	var l []string
	for _, b := range a.Types {
		s, _ := types.Text(b.To)
		l = append(l, fmt.Sprint(b.Name, ".", b.Index, "=", s))
	}
	for _, v := range a.Values {
		l = append(l, fmt.Sprint(v.Name, ".", v.Index, "=", v.Value))
	}
	return strings.Join(l, " ")
}

func TestP81Holds(t *testing.T) {
	thy, m := world1()
	thy.Classes = []api.Class{{Name: "c"}, {Name: "d"}}
	thy.Arities = []api.Arity{{Type: "t", Class: "c"}}
	m.Ground = []api.Type{typ("B"), typ("T"), typ("u"), typ("tree")}
	differ := func(k, a, b string) string { return tr(not(equal(k, a, b))) }
	for i, c := range []struct {
		hyps []string
		prop string
		want string // the assignment that shows that it does not hold
	}{
		{nil, tr("True:B"), ""}, {nil, tr("False:B"), "false"}, {[]string{tr("False:B")}, tr("False:B"), ""}, {[]string{tr("True:B"), tr("False:B"), tr("True:B")}, tr("False:B"), ""},
		{nil, tr("$p:B"), "p.-1=0"}, {nil, tr(not("$p:B")), "p.-1=1"}, {[]string{tr("$p:B")}, tr("$p:B"), ""}, {[]string{tr("$q:B")}, tr("$p:B"), "q.-1=1 p.-1=0"},
		{nil, eq("T", "$x:T", "$y:T"), "x.-1=0 y.-1=1"}, {[]string{eq("T", "$y:T", "a:T")}, eq("T", "$x:T", "$y:T"), "y.-1=1 x.-1=0"}, {nil, tr(equal("tree", "?x.3:tree", "$y:tree")), "y.-1=0 x.3=1"},
		{[]string{tr(two("And", "?p.1:B", "?p.0:B"))}, tr(two("And", "?p.0:B", "$p:B")), "p.-1=0 p.1=1 p.0=1"}, // Frees, then Vars, each in the order in which they occur
		{[]string{tr(not("$g:B")), tr("?z.0:B")}, imp(tr("$h:B"), tr("?y.0:B"), tr("$g:B")), "g.-1=0 h.-1=1 z.0=1 y.0=1"},
		{nil, differ("?a.0", "?x.0:?a.0", "?y.0:?a.0"), "a.0=bool x.0=0 y.0=0"}, {nil, tr(equal("?a.0", "?x.0:?a.0", "?y.0:?a.0")), "a.0=bool x.0=0 y.0=1"}, {nil, tr(equal("'a{c}", "?x.0:'a{c}", "?y.0:'a{c}")), "a.-1=t x.0=0 y.0=1"}, {nil, differ("?a.0{d}", "?x.0:?a.0{d}", "?x.0:?a.0{d}"), ""},
		{nil, tr(quantified("Ex", "?a.0", not(equal("?a.0", "#0", "?x.0:?a.0")))), "a.0=u x.0=0"}, {nil, tr(quantified("All", "'a", quantified("Ex", "'b", "False:B"))), "a.-1=bool b.-1=bool"},
		{nil, imp(tr(quantified("All", "'b", quantified("All", "'b", equal("'b", "#0", "#1")))), tr(quantified("All", "'a", quantified("All", "'a", equal("'a", "#0", "#1"))))), "b.-1=u a.-1=bool"},
		{[]string{imp(tr(quantified("Ex", "?a.5", equal("?a.5", "#0", "#0"))), tr("False:B"))}, tr("False:B"), ""},
		{nil, tr(not(equal("F('a{c}, 'b{c})", "?f.0:F('a{c}, 'b{c})", "(\\x:'a{c} . ?y.0:'b{c})"))), "a.-1=t b.-1=t f.0=0 y.0=0"},
	} {
		var hyps []api.Term
		for _, h := range c.hyps {
			hyps = append(hyps, of(h))
		}
		ok, a, e := Holds(thy, m, hyps, of(c.prop))
		want := c.want
		if want == "false" {
			want = ""
		}
		if e != api.OK || ok != (c.want == "") || assignment(a) != want {
			t.Error(i, ok, assignment(a), e)
		}
	}
	// without types in Ground everything with type variables holds
	m.Ground = nil
	if ok, _, e := Holds(thy, m, nil, of(tr(not(equal("?a.0", "?x.0:?a.0", "?x.0:?a.0"))))); !ok || e != api.OK {
		t.Error(ok, e)
	}
}

func TestP81HoldsErrors(t *testing.T) {
	thy, m := world1()
	thy.Classes = []api.Class{{Name: "c"}}
	less := m
	less.Carriers = m.Carriers[:4]
	p := tr("$p:B")
	xx := func(k string) string { return eq(k, "$x:"+k, "$x:"+k) }
	big := "F(F(F(T, T), B), B)"
	for i, c := range []struct {
		thy  api.Theory
		m    Model
		hyps []string
		prop string
		e    api.Errno
	}{
		{thy, m, slices.Repeat([]string{p}, 500), p, 0}, {api.Theory{}, m, slices.Repeat([]string{"k:P"}, 501), p, api.ErrForm}, {api.Theory{}, Model{Ground: make([]api.Type, 5)}, []string{"k:P"}, p, api.ErrTheory}, {thy, Model{Ground: make([]api.Type, 5)}, []string{"k:P"}, p, ErrModel},
		{thy, m, []string{"k:P"}, "$p:B", api.ErrMissing}, {thy, m, []string{"$p:B", "k:P"}, p, api.ErrType}, {thy, m, []string{"k:P", "$p:B"}, p, api.ErrMissing}, {thy, m, []string{p}, "$p:B", api.ErrType}, {thy, m, nil, "(a:T a:T)", api.ErrType}, {thy, less, []string{xx("u")}, "$p:B", api.ErrType},
		{thy, less, []string{xx("'a"), xx("'a{c}")}, p, api.ErrSort}, {thy, less, []string{eq("'a", "$y:'a", "$y:'a"), xx("T"), xx("B")}, xx("'a{c}"), api.ErrSort}, {thy, less, []string{xx("T"), xx("B")}, p, api.ErrType}, {thy, less, []string{xx("u")}, xx("T"), api.ErrType},
		{thy, less, []string{xx("u")}, p, ErrModel}, {thy, m, []string{eq("T", "some:T", "a:T")}, xx(big), ErrModel}, {thy, m, []string{p}, eq("T", "some:T", "a:T"), ErrModel},
		{thy, m, nil, xx(big), api.ErrLarge}, {thy, m, nil, xx("pair(T, option(tree))"), api.OK}, {thy, m, nil, tr(equal("tree", "$x:tree", "$y:tree")), api.OK},
		{thy, m, nil, "((\\x:" + big + " . " + p + ") $y:" + big + ")", api.ErrLarge},
	} {
		var hyps []api.Term
		for _, h := range c.hyps {
			hyps = append(hyps, of(h))
		}
		ok, a, e := Holds(c.thy, c.m, hyps, of(c.prop))
		if e != c.e || e != api.OK && (ok || assignment(a) != "") {
			t.Error(i, ok, assignment(a), e, c.e)
		}
	}
}

func TestP81HoldsFuel(t *testing.T) {
	thy, m := world1()
	// Trueprop of a term with some work has one more
	for i, c := range []struct {
		ground []string
		prop   string
		e      api.Errno
	}{
		{nil, tr(working(MaxWork - 1)), 0}, {nil, tr(working(MaxWork)), api.ErrFuel},
		{nil, tr(two("Or", "$p:B", working(MaxWork/2-3))), 0}, {nil, tr(two("Or", "$p:B", working(MaxWork/2-2))), api.ErrFuel}, // two assignments
		{[]string{"B", "T"}, tr(two("Or", equal("'a", "$x:'a", "$x:'a"), working(MaxWork/4-5))), 0}, {[]string{"B", "T"}, tr(two("Or", equal("'a", "$x:'a", "$x:'a"), working(MaxWork/4-4))), api.ErrFuel},
		{[]string{"B", "tree"}, tr(two("Or", equal("'a", "$x:'a", "$x:'a"), working(5550))), 0}, {[]string{"B", "tree"}, tr(two("Or", equal("'a", "$x:'a", "$x:'a"), working(5551))), api.ErrFuel}, // 2 + 7 assignments of n + 5
		{[]string{"B", "F(F(T, T), B)"}, eq("F('a, 'b)", "$f:F('a, 'b)", "$f:F('a, 'b)"), api.ErrLarge}, {[]string{"B", "F(F(T, T), B)"}, imp(eq("F('a, 'b)", "$f:F('a, 'b)", "$f:F('a, 'b)"), eq("B", "True:B", "True:B")), api.ErrFuel}, // (4 + 256 + 4097 + 4097) * 3, and * 7: work is ahead of what is too large
		{[]string{"B", "F(F(T, T), B)"}, eq("F('a, F('a, B))", "$f:F('a, F('a, B))", "$f:F('a, F('a, B))"), api.ErrLarge},
		{slices.Repeat([]string{"u"}, 4), forTypes(6), 0}, {slices.Repeat([]string{"u"}, 4), forTypes(7), api.ErrFuel}, {slices.Repeat([]string{"u"}, 4), forTypes(40), api.ErrFuel},
	} {
		m.Ground = nil
		for _, g := range c.ground {
			m.Ground = append(m.Ground, typ(g))
		}
		if _, _, e := Holds(thy, m, nil, of(c.prop)); e != c.e {
			t.Error(i, e, c.e)
		}
	}
}

// forTypes returns a proposition with n type variables, and 4 of work.
func forTypes(n int) string {
	k := "P"
	for i := range n {
		k = fmt.Sprintf("F('a%d, %s)", i, k)
	}
	return "(all:F(F(" + k + ", P), P) (\\x:" + k + " . " + tr("True:B") + "))"
}

// A new assignment does not share memory with the model.
func TestP81HoldsOwn(t *testing.T) {
	thy, m := world1()
	m.Ground = []api.Type{typ("pair(T, B)")}
	_, a, e := Holds(thy, m, nil, of(tr(equal("'a", "$x:'a", "$y:'a"))))
	if e != api.OK || assignment(a) != "a.-1=pair(t, bool) x.-1=0 y.-1=1" {
		t.Fatal(assignment(a), e)
	}
	a.Types[0].To.Args[0].Name = "spoilt"
	if m.Ground[0].Args[0].Name != "t" {
		t.Error("shared")
	}
}

func TestP81True(t *testing.T) {
	thy, m := world1()
	if ok, name, e := True(thy, m); !ok || name != "" || e != api.OK {
		t.Error(ok, name, e)
	}
	more := extended(thy, nil, nil, [2]string{"yes", tr("True:B")}, [2]string{"differ", tr(not(equal("?a.0", "?x.0:?a.0", "?y.0:?a.0")))}, [2]string{"no", tr("False:B")})
	if ok, name, e := True(more, m); ok || name != "differ" || e != api.OK {
		t.Error(ok, name, e)
	}
	m.Ground = nil
	if ok, name, e := True(more, m); ok || name != "no" || e != api.OK {
		t.Error(ok, name, e)
	}
	// definitions are not asked, others are, whatever their kind; the first one that does not hold, or has an error, decides
	thy = defined(thy, [2]string{"k", "some:T"})
	if ok, _, e := True(thy, m); !ok || e != api.OK {
		t.Error(ok, e)
	}
	lost := extended(thy, nil, nil, [2]string{"lost", eq("T", "k:T", "a:T")}, [2]string{"no", tr("False:B")})
	if ok, name, e := True(lost, m); ok || name != "" || e != ErrModel {
		t.Error(ok, name, e)
	}
	lost = extended(extended(thy, nil, nil, [2]string{"no", tr("False:B")}), nil, nil, [2]string{"lost", eq("T", "k:T", "a:T")})
	if ok, name, e := True(lost, m); ok || name != "no" || e != api.OK {
		t.Error(ok, name, e)
	}
	lost.Axioms[len(lost.Axioms)-2].Kind = api.TypeDef
	if ok, name, e := True(lost, m); ok || name != "no" || e != api.OK {
		t.Error(ok, name, e)
	}
	if ok, name, e := True(api.Theory{}, m); ok || name != "" || e != api.ErrTheory {
		t.Error(ok, name, e)
	}
	if ok, name, e := True(thy, Model{Ground: make([]api.Type, 1)}); ok || name != "" || e != ErrModel {
		t.Error(ok, name, e)
	}
}

// The axioms of HOL hold in all its models.
func TestP82HOL(t *testing.T) {
	thy := extended(logic(), []string{"t", "u"}, nil, holAxioms()...)
	if len(holAxioms()) != 25 {
		t.Error(len(holAxioms()))
	}
	for n := 1; n <= 3; n++ {
		for _, ground := range [][]api.Type{nil, {typ("B")}, {typ("T")}, {typ("u"), typ("T")}, {typ("F(T, u)"), typ("u")}} {
			m := Model{Carriers: []Carrier{points("t", n), points("u", 1)}, Ground: ground}
			if ok, name, e := True(thy, m); !ok || e != api.OK {
				t.Error(n, ground, name, e)
			}
		}
	}
	// of types without elements in common with their set: The gives the element 0
	m := Model{Carriers: []Carrier{points("t", 3), points("u", 1)}}
	for n := range 8 {
		want := map[int]int{2: 1, 4: 2}[n]
		if v, e := Evaluate(thy, m, of("(The:F(F(T, B), T) $s:F(T, B))"), values(Value{"s", -1, n})); v != want || e != api.OK {
			t.Error(n, v, e)
		}
	}
}

// models writes models: the sizes of carriers, and values.
func models(l []Model) string {
	var out []string
	for _, m := range l {
		s := ""
		for _, c := range m.Carriers {
			s += fmt.Sprint(c.Name, len(c.Cases), " ")
		}
		for _, x := range m.Meanings {
			s += fmt.Sprint(x.Name, "=", x.Value, " ")
		}
		out = append(out, strings.TrimSpace(s))
	}
	return strings.Join(out, "; ")
}

func TestP81Models(t *testing.T) {
	thy := extended(logic(), []string{"t"}, []string{"a T", "p F(T, B)"}, [2]string{"a_p", tr("(p:F(T, B) a:T)")})
	thy = defined(thy, [2]string{"k", "a:T"})
	all := "t1 a=0 p=1; t2 a=0 p=1; t2 a=0 p=3; t2 a=1 p=2; t2 a=1 p=3"
	for i, c := range []struct {
		size, most int
		want       string
		e          api.Errno
	}{
		{1, 1000, "t1 a=0 p=1", 0}, {2, 1000, all, 0}, {2, 5, all, 0}, {2, 3, "t1 a=0 p=1; t2 a=0 p=1; t2 a=0 p=3", 0}, {2, 1, "t1 a=0 p=1", 0}, {0, 1, "", api.ErrRange}, {4, 1, "", api.ErrRange}, {-1, 1, "", api.ErrRange}, {1, 0, "", api.ErrRange}, {1, 1001, "", api.ErrRange}, {1, -1, "", api.ErrRange}, {9, -1, "", api.ErrRange},
	} {
		l, e := Models(thy, c.size, c.most)
		if models(l) != c.want || e != c.e {
			t.Error(i, models(l), e)
		}
	}
	l, _ := Models(thy, 2, 2)
	m := l[1]
	if len(m.Ground) != 2 || m.Ground[0].Name != "bool" || m.Ground[1].Name != "t" || len(m.Carriers[0].Params) != 0 || len(m.Carriers[0].Cases[1]) != 0 || m.Meanings[0].How != Table || m.Meanings[0].Type != "" {
		t.Error(m)
	}
	many := extended(logic(), []string{"t", "v", "w", "x"}, nil)
	l, e := Models(many, 3, 1000)
	if e != api.OK || len(l) != 81 || models(l[:4]) != "t1 v1 w1 x1; t1 v1 w1 x2; t1 v1 w1 x3; t1 v1 w2 x1" || len(l[0].Ground) != 4 || l[0].Ground[3].Name != "w" {
		t.Error(len(l), e)
	}
	if l, e := Models(theory.Pure(), 1, 1); e != api.OK || len(l) != 1 || len(l[0].Ground)+len(l[0].Carriers)+len(l[0].Meanings) != 0 {
		t.Error(l, e)
	}
	if l, e := Models(extended(theory.Pure(), nil, nil, [2]string{"no", "?A.0:P"}), 1, 1); e != api.OK || len(l) != 0 {
		t.Error(l, e)
	}
	bad := thy
	bad.Name = "1"
	for i, c := range []struct {
		thy  api.Theory
		size int
		e    api.Errno
	}{
		{bad, 0, api.ErrTheory}, {extended(thy, []string{"list 1"}, nil), 0, api.ErrRange}, {extended(thy, []string{"list 1"}, nil), 1, ErrModel}, {extended(thy, nil, []string{"some ?a.0"}), 1, ErrModel}, {extended(thy, nil, []string{"some ?a.0", "f F(F(F(T, T), T), T)"}), 3, ErrModel},
		{overloaded(extended(thy, nil, []string{"some ?a.0"}), "some", [2]string{"T", "a:T"}), 2, 0}, {extended(theory.Pure(), []string{"bool 1"}, nil), 1, ErrModel}, {extended(theory.Pure(), nil, []string{"All F(F(?b.0, P), P)"}), 1, ErrModel}, // not known
		{extended(logic(), []string{"a", "b", "c", "d", "e"}, nil), 3, api.ErrLarge}, {extended(logic(), []string{"a", "b", "c", "d", "e", "f"}, nil), 2, 0}, {extended(logic(), []string{"a", "b", "c", "d", "e", "f", "g"}, nil), 2, api.ErrLarge}, // 243, 64 and 128 of them
		{extended(logic(), []string{"t"}, []string{"f F(T, T)"}), 3, 0}, {extended(logic(), []string{"t"}, []string{"f F(T, T)", "b B"}), 3, 0}, {extended(logic(), []string{"t"}, []string{"f F(T, T)", "b B", "d B"}), 3, api.ErrLarge}, // 1 + 4 + 27, and so on
		{extended(logic(), []string{"t", "u"}, []string{"a T", "b T", "c u", "d u", "x B", "y B"}), 2, 0}, // just 100
		{extended(logic(), []string{"t"}, []string{"f F(T, F(T, B))"}), 1, 0}, {extended(logic(), []string{"t"}, []string{"f F(T, F(T, B))"}), 2, 0}, {extended(logic(), []string{"t"}, []string{"f F(T, F(T, B))"}), 3, api.ErrLarge}, {extended(logic(), []string{"t"}, []string{"f F(F(F(T, T), T), B)"}), 3, api.ErrLarge}, {extended(logic(), []string{"t"}, []string{"f F(F(F(T, T), B), T)"}), 1, 0},
		{extended(logic(), []string{"t"}, []string{"x T"}, [2]string{"big", tr(quantified("All", "F(T, F(T, T))", "True:B"))}), 1, 0}, {extended(logic(), []string{"t"}, []string{"x T"}, [2]string{"big", tr(quantified("All", "F(T, F(T, T))", "True:B"))}), 2, api.ErrLarge},
		{extended(logic(), []string{"t"}, []string{"x T"}, [2]string{"no", tr("False:B")}, [2]string{"big", tr(quantified("All", "F(T, F(T, T))", "True:B"))}), 2, 0}, // no axiom is asked behind one that does not hold
	} {
		l, e := Models(c.thy, c.size, 1000)
		if e != c.e || e != api.OK && l != nil {
			t.Error(i, len(l), e, c.e)
		}
	}
	// errors behind the last model that is wanted play no part
	big := extended(logic(), []string{"t"}, []string{"x T"}, [2]string{"big", tr(quantified("All", "F(T, F(T, T))", "True:B"))})
	if l, e := Models(big, 2, 1); e != api.OK || len(l) != 1 {
		t.Error(len(l), e)
	}
}

// P8.6: the axioms are true in what Models returns, and no two of these are equal.
func TestP86Models(t *testing.T) {
	for i, thy := range []api.Theory{
		extended(logic(), []string{"t"}, []string{"a T", "p F(T, B)"}, [2]string{"a_p", tr("(p:F(T, B) a:T)")}),
		extended(logic(), []string{"t", "u"}, []string{"f F(T, u)"}, [2]string{"inj", imp(eq("u", "(f:F(T, u) ?x.0:T)", "(f:F(T, u) ?y.0:T)"), eq("T", "?x.0:T", "?y.0:T"))}),
		extended(logic(), []string{"t"}, []string{"f F(T, T)"}, [2]string{"fix", tr(quantified("Ex", "T", equal("T", "#0", "(f:F(T, T) #0)")))}, [2]string{"two", tr(quantified("Ex", "?a.0", not(equal("?a.0", "#0", "?x.0:?a.0"))))}),
	} {
		l, e := Models(thy, 3, 1000)
		if e == api.ErrLarge {
			l, e = Models(thy, 2, 1000)
		}
		if e != api.OK || len(l) < 2 {
			t.Fatal(i, len(l), e)
		}
		met := map[string]bool{}
		for _, m := range l {
			if ok, name, e := True(thy, m); !ok || e != api.OK || Check(thy, m) != api.OK {
				t.Error(i, name, e)
			}
			s := models([]Model{m})
			if met[s] {
				t.Error(i, s)
			}
			met[s] = true
		}
	}
}
