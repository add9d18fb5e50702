package theory

import (
	"fmt"
	"slices"
	"strings"
	"testing"

	"triforium/api"
	"triforium/sort"
	"triforium/term"
	"triforium/types"
)

func typ(s string) api.Type {
	r := types.Reader{Rest: s}
	t, ok := r.Type()
	if !ok || r.Rest != "" {
		panic("no type: " + s)
	}
	return t
}

// of reads a term: N stands for nat, P for prop, and F(..) for the type of functions.
func of(s string) api.Term {
	s = strings.NewReplacer("N", "nat", "P", "prop", "F(", "fun(").Replace(s)
	t, e := term.Read(s)
	if e != api.OK {
		panic(fmt.Sprint("no term: ", s, " ", e))
	}
	return t
}

func text(t api.Term) string {
	s, e := term.Text(t)
	if e != api.OK {
		return fmt.Sprint("error ", e)
	}
	return s
}

// eq returns the text of an equation at a type.
func eq(t, a, b string) string { return fmt.Sprintf("((eq:F(%s, F(%s, P)) %s) %s)", t, t, a, b) }

func decl(name, t string) api.ConstDecl {
	return api.ConstDecl{Name: name, Type: typ(strings.NewReplacer("N", "nat", "P", "prop", "F(", "fun(").Replace(t))}
}

func axiom(name string, kind int, prop string) api.Axiom {
	return api.Axiom{Name: name, Kind: kind, Prop: of(prop)}
}

// small is Pure with the classes ord and lin below it, the constructors nat, list and pair, some constants, an axiom and an oracle.
func small() api.Theory {
	t := Pure()
	t.Name = "Small"
	t.Classes = []api.Class{{Name: "ord"}, {Name: "lin", Supers: []string{"ord"}}}
	t.Types = append(t.Types, api.TypeDecl{Name: "nat"}, api.TypeDecl{Name: "list", Arity: 1}, api.TypeDecl{Name: "pair", Arity: 2})
	t.Arities = []api.Arity{{Type: "nat", Class: "ord"}, {Type: "nat", Class: "lin"}, {Type: "list", Class: "ord", Sorts: [][]string{{"ord"}}}}
	t.Consts = append(t.Consts, decl("z", "N"), decl("s", "F(N, N)"), decl("op", "F(?a.0, F(?a.0, ?a.0))"), decl("le", "F(?a.0{ord}, F(?a.0{ord}, P))"), decl("two", "F(?a.0, ?b.0)"), decl("hd", "F(list(?a.0), ?a.0)"), decl("some", "?a.0"))
	t.Axioms = append(t.Axioms, axiom("z_s", api.Plain, eq("N", "z:N", "(s:F(N, N) z:N)")))
	t.Oracles = []string{"believe"}
	return t
}

func TestP41Pure(t *testing.T) {
	p := Pure()
	var s []string
	for _, d := range p.Types {
		s = append(s, fmt.Sprint(d.Name, d.Arity))
	}
	for _, c := range p.Consts {
		k, _ := types.Text(c.Type)
		s = append(s, c.Name+":"+k)
	}
	for _, x := range p.Axioms {
		s = append(s, fmt.Sprint(x.Name, x.Kind, text(x.Prop)))
	}
	want := "fun2 prop0 imp:fun(prop, fun(prop, prop)) all:fun(fun(?a.0, prop), prop) eq:fun(?a.0, fun(?a.0, prop)) protect:fun(prop, prop) " +
		"protect_def0((eq:fun(prop, fun(prop, prop)) (protect:fun(prop, prop) ?A.0:prop)) ?A.0:prop)"
	if strings.Join(s, " ") != want || p.Name != "Pure" || len(p.Classes)+len(p.Arities)+len(p.Oracles) != 0 || Check(p) != api.OK {
		t.Error(s, p.Name)
	}
}

// names returns n names.
func names(n int) []string {
	var l []string
	for i := range n {
		l = append(l, fmt.Sprint("o", i))
	}
	return l
}

// axioms returns n axioms, the first of which is Pure's.
func axioms(n int) []api.Axiom {
	l := Pure().Axioms
	for i := range n - 1 {
		l = append(l, axiom(fmt.Sprint("a", i), api.Plain, "?A.0:P"))
	}
	return l
}

func TestP41Check(t *testing.T) {
	for i, x := range []struct {
		change func(*api.Theory)
		e      api.Errno
	}{
		{func(x *api.Theory) {}, api.OK},
		{func(x *api.Theory) { x.Name = "1"; x.Classes[0].Name = "" }, api.ErrForm},
		{func(x *api.Theory) { x.Name = "" }, api.ErrForm},
		{func(x *api.Theory) { x.Classes[0].Name = ""; x.Consts[0].Name = "" }, sort.ErrName},
		{func(x *api.Theory) { x.Consts[4].Name = "z z"; x.Oracles[0] = "" }, api.ErrForm},
		{func(x *api.Theory) { x.Consts[5].Name = "z"; x.Oracles[0] = "" }, api.ErrDuplicate},
		{func(x *api.Theory) { x.Consts[5].Type = typ("set"); x.Oracles[0] = "" }, api.ErrMissing},
		{func(x *api.Theory) { x.Oracles = names(300) }, api.OK},
		{func(x *api.Theory) { x.Oracles = append([]string{""}, names(300)...) }, api.ErrCount},
		{func(x *api.Theory) { x.Oracles = []string{"a", "a", ""} }, api.ErrDuplicate},
		{func(x *api.Theory) { x.Oracles = []string{"a", "", "a"}; x.Axioms = nil }, api.ErrForm},
		{func(x *api.Theory) { x.Oracles = []string{"\xff"} }, api.ErrForm},
		{func(x *api.Theory) { x.Axioms = x.Axioms[1:] }, api.ErrTheory},
		{func(x *api.Theory) { x.Axioms[0].Kind = api.Defining }, api.ErrTheory},
		{func(x *api.Theory) { x.Axioms[0].Kind = api.TypeDef; x.Axioms[1].Name = "" }, api.ErrTheory},
		{func(x *api.Theory) { x.Consts[2].Type = typ("fun(?b.0, fun(?b.0, prop))") }, api.ErrTheory},
		{func(x *api.Theory) { x.Consts = x.Consts[:3] }, api.ErrTheory},
		{func(x *api.Theory) { x.Types = slices.Concat(x.Types[2:], x.Types[:2]) }, api.OK},
		{func(x *api.Theory) { x.Axioms = axioms(300) }, api.OK},
		{func(x *api.Theory) { x.Axioms = axioms(301); x.Axioms[1].Name = "" }, api.ErrCount},
		{func(x *api.Theory) { x.Axioms[1].Name = "1" }, api.ErrForm},
		{func(x *api.Theory) { x.Axioms[1].Kind = 3; x.Axioms[1].Name = "protect_def" }, api.ErrForm},
		{func(x *api.Theory) { x.Axioms[1].Kind = -1 }, api.ErrForm},
		{func(x *api.Theory) { x.Axioms[1].Kind = api.TypeDef }, api.OK},
		{func(x *api.Theory) { x.Axioms = append(x.Axioms, api.Axiom{Name: "z_s"}) }, api.ErrDuplicate},
		{func(x *api.Theory) { x.Axioms[1].Prop = api.Term{} }, api.ErrForm},
		{func(x *api.Theory) { x.Axioms[1].Prop = of("q:P") }, api.ErrMissing},
		{func(x *api.Theory) { x.Axioms[1].Prop = of("($x:N $x:N)") }, api.ErrType},
		{func(x *api.Theory) { x.Axioms[1].Prop = of("$x:N") }, api.ErrType},
		{func(x *api.Theory) { x.Axioms[1].Prop = of("z:N") }, api.ErrType},
		{func(x *api.Theory) { x.Axioms[1].Prop = of("$x:P") }, api.ErrForm},
		{func(x *api.Theory) { x.Axioms[1].Prop = of("(all:F(F('a, P), P) (\\x:'a . ?A.0:P))") }, api.ErrForm},
		{func(x *api.Theory) { x.Axioms[1].Prop = of("(all:F(F(?a.7, P), P) (\\x:?a.7 . ?A.3:P))") }, api.OK},
		{func(x *api.Theory) { x.Axioms = append(x.Axioms, axiom("a", 1, "?A.0:P"), api.Axiom{}) }, ErrDefine}, // axiom by axiom
		{func(x *api.Theory) { x.Axioms = append(x.Axioms, api.Axiom{}, axiom("a", 1, "?A.0:P")) }, api.ErrForm},
	} {
		thy := small()
		x.change(&thy)
		if e := Check(thy); e != x.e {
			t.Error(i, e, x.e)
		}
	}
	if e := Check(api.Theory{}); e != api.ErrForm {
		t.Error(e)
	}
	if e := Check(api.Theory{Name: "T"}); e != api.ErrTheory {
		t.Error(e)
	}
}

func TestP41Permitted(t *testing.T) {
	long := "F(pair(?x.0, ?y.0), F(pair(?x.0, ?y.0), pair(?x.0, ?y.0)))"
	for i, x := range []struct {
		prop string
		e    api.Errno
	}{
		{eq("N", "z:N", "z:N"), ErrDefine}, // into a circle
		{eq("N", "z:N", "(s:F(N, N) z:N)"), ErrDefine}, {eq("F(N, N)", "s:F(N, N)", "(\\x:N . z:N)"), api.OK},
		{"((imp:F(P, F(P, P)) ?A.0:P) ?A.0:P)", ErrDefine}, {eq("N", "(s:F(N, N) z:N)", "z:N"), ErrDefine}, {eq("N", "?x.0:N", "z:N"), ErrDefine}, {"?A.0:P", ErrDefine},
		{eq("F(P, F(P, P))", "imp:F(P, F(P, P))", "(\\x:P . (\\y:P . #0))"), ErrDefine}, {eq("F(F(?a.0, P), P)", "all:F(F(?a.0, P), P)", "(\\x:F(?a.0, P) . (all:F(F(N, P), P) (\\y:N . (#1 some:?a.0))))"), ErrDefine}, {eq("F(?a.0, F(?a.0, P))", "eq:F(?a.0, F(?a.0, P))", "(\\x:?a.0 . (\\y:?a.0 . some:P))"), ErrDefine},
		{eq("F(P, P)", "protect:F(P, P)", "(\\x:P . #0)"), api.OK}, // none of imp, all and eq
		{eq("F(N, N)", "s:F(N, N)", "?f.0:F(N, N)"), ErrDefine}, {eq("F(N, N)", "s:F(N, N)", "(\\x:N . ?y.0:N)"), ErrDefine},
		{eq("F(N, N)", "s:F(N, N)", "(\\x:N . ((\\y:?a.0 . z:N) some:?a.0))"), ErrDefine},
		{eq("F(?a.0, ?b.0)", "two:F(?a.0, ?b.0)", "(\\x:?a.0 . some:?b.0)"), api.OK}, {eq("F(?b.0, ?a.0)", "two:F(?b.0, ?a.0)", "(\\x:?b.0 . some:?a.0)"), ErrDefine}, {eq("F(?a.0, N)", "two:F(?a.0, N)", "(\\x:?a.0 . z:N)"), ErrDefine}, {eq("F(?a.0, ?b.1)", "two:F(?a.0, ?b.1)", "(\\x:?a.0 . some:?b.1)"), ErrDefine},
		{eq("?a.0", "some:?a.0", "(hd:F(list(?a.0), ?a.0) some:list(?a.0))"), ErrDefine}, {eq("?b.0", "some:?b.0", "(hd:F(list(?b.0), ?b.0) (two:F(N, list(?b.0)) z:N))"), ErrDefine}, {eq("?a.0", "some:?a.0", "(hd:F(list(?a.0), ?a.0) (two:F(N, list(?a.0)) z:N))"), api.OK},
		{eq("F(N, F(N, N))", "op:F(N, F(N, N))", "(\\x:N . s:F(N, N))"), api.OK}, {eq(long, "op:"+long, "(\\x:pair(?x.0, ?y.0) . (\\y:pair(?x.0, ?y.0) . #1))"), api.OK},
		{eq("F(pair(?x.0, ?x.0), F(pair(?x.0, ?x.0), pair(?x.0, ?x.0)))", "op:F(pair(?x.0, ?x.0), F(pair(?x.0, ?x.0), pair(?x.0, ?x.0)))", "(\\x:pair(?x.0, ?x.0) . (\\y:pair(?x.0, ?x.0) . #1))"), ErrDefine},
		{eq("F(list(N), F(list(N), list(N)))", "op:F(list(N), F(list(N), list(N)))", "(\\x:list(N) . (\\y:list(N) . #1))"), ErrDefine}, {eq("F(list(?a.1), F(list(?a.1), list(?a.1)))", "op:F(list(?a.1), F(list(?a.1), list(?a.1)))", "(\\x:list(?a.1) . (\\y:list(?a.1) . #1))"), ErrDefine}, {eq("F(?b.0, F(?b.0, ?b.0))", "op:F(?b.0, F(?b.0, ?b.0))", "(\\x:?b.0 . (\\y:?b.0 . #1))"), ErrDefine},
		{eq("F(list(?b.0{ord}), F(list(?b.0{ord}), P))", "le:F(list(?b.0{ord}), F(list(?b.0{ord}), P))", "(\\x:list(?b.0{ord}) . (\\y:list(?b.0{ord}) . ((le:F(?b.0{ord}, F(?b.0{ord}, P)) (hd:F(list(?b.0{ord}), ?b.0{ord}) #0)) (hd:F(list(?b.0{ord}), ?b.0{ord}) #1))))"), api.OK},
		{eq("F(list(N), N)", "hd:F(list(N), N)", "(\\x:list(N) . z:N)"), api.OK}, {eq("P", "some:P", "(all:F(F(P, P), P) (\\x:P . #0))"), api.OK},
		{eq("F(?a.0{ord}, F(?a.0{ord}, P))", "le:F(?a.0{ord}, F(?a.0{ord}, P))", "(\\x:?a.0{ord} . (\\y:?a.0{ord} . some:P))"), api.OK}, {eq("F(?a.0{lin}, F(?a.0{lin}, P))", "le:F(?a.0{lin}, F(?a.0{lin}, P))", "(\\x:?a.0{lin} . (\\y:?a.0{lin} . some:P))"), ErrDefine},
	} {
		thy := small()
		thy.Axioms = append(thy.Axioms, axiom("d", api.Defining, x.prop))
		if e := Check(thy); e != x.e {
			t.Error(i, x.prop, e)
		}
		thy.Axioms[2].Kind = api.TypeDef
		if e := Check(thy); e != api.OK {
			t.Error("as another axiom", i, e)
		}
	}
}

// definitions of some and op by texts: some at a type as a term.
func someAt(t, rhs string) string { return eq(t, "some:"+t, rhs) }

func TestP41FitTogether(t *testing.T) {
	list, pair := "list(?x.0)", "pair(?x.0, ?y.0)"
	via := func(t, rhs string) string { return "(two:F(" + t + ", " + rhs + ") some:" + t + ")" } // of the type rhs, with a use of some at t
	hd := func(t string) string { return "(hd:F(list(" + t + "), " + t + ") some:list(" + t + "))" }
	for i, x := range []struct {
		l []string
		e api.Errno
	}{
		{[]string{someAt("N", "z:N"), someAt(list, "(two:F(N, list(?x.0)) z:N)"), someAt(pair, "(two:F(N, pair(?x.0, ?y.0)) z:N)")}, api.OK},
		{[]string{someAt("N", "z:N"), someAt("N", "(s:F(N, N) z:N)")}, ErrDefine},
		{[]string{someAt(list, "(two:F(N, list(?x.0)) z:N)"), someAt("list(?y.0)", "(two:F(P, list(?y.0)) "+hd("P")+")")}, ErrDefine},
		{[]string{someAt("N", "z:N"), someAt("?a.0", "(two:F(N, ?a.0) z:N)")}, ErrDefine}, {[]string{someAt("?a.0", "(two:F(N, ?a.0) z:N)"), someAt("N", "z:N")}, ErrDefine},
		// uses
		{[]string{someAt("N", via("P", "N")), someAt("P", via("list(N)", "P")), someAt(list, "(two:F(N, list(?x.0)) z:N)")}, api.OK},
		{[]string{someAt("N", via("P", "N")), someAt("P", via("list(N)", "P")), someAt(list, via("N", "list(?x.0)"))}, ErrDefine},
		{[]string{someAt("N", via("N", "N"))}, ErrDefine}, {[]string{someAt("N", via("P", "N"))}, api.OK}, {[]string{someAt(list, via("list(N)", "list(?x.0)"))}, ErrDefine}, {[]string{someAt(list, via("list(list(?x.0))", "list(?x.0)"))}, ErrDefine},
		{[]string{someAt(list, via("?x.0", "list(?x.0)"))}, api.OK}, {[]string{someAt(pair, via("?x.0", "F(?y.0, pair(?x.0, ?y.0))")[:0]+"((two:F(?x.0, F(?y.0, pair(?x.0, ?y.0))) some:?x.0) some:?y.0)")}, api.OK}, {[]string{someAt(pair, via("list(?x.0)", "pair(?x.0, ?y.0)"))}, api.OK},
		{[]string{someAt(pair, via("list(?x.0)", "pair(?x.0, ?y.0)")), someAt(list, via("?x.0", "list(?x.0)"))}, api.OK}, {[]string{someAt(pair, via("list(?x.0)", "pair(?x.0, ?y.0)")), someAt(list, via("pair(?x.0, N)", "list(?x.0)"))}, ErrDefine},
		// a use at a variable in the definition of another constant leads to all definitions
		{[]string{someAt("N", "(s:F(N, N) z:N)"), eq("F(?a.0, F(?a.0, ?a.0))", "op:F(?a.0, F(?a.0, ?a.0))", "(\\x:?a.0 . (\\y:?a.0 . some:?a.0))")}, api.OK},
		{[]string{someAt("N", "((op:F(N, F(N, N)) z:N) z:N)"), eq("F(?a.0, F(?a.0, ?a.0))", "op:F(?a.0, F(?a.0, ?a.0))", "(\\x:?a.0 . (\\y:?a.0 . some:?a.0))")}, ErrDefine},
		{[]string{someAt(list, "((op:F(list(?x.0), F(list(?x.0), list(?x.0))) (two:F(N, list(?x.0)) z:N)) (two:F(N, list(?x.0)) z:N))"), eq("F(N, F(N, N))", "op:F(N, F(N, N))", "(\\x:N . (\\y:N . "+hd("N")+"))")}, api.OK},
		{[]string{someAt(list, "((op:F(list(?x.0), F(list(?x.0), list(?x.0))) (two:F(N, list(?x.0)) z:N)) (two:F(N, list(?x.0)) z:N))"), eq("F(list(?y.0), F(list(?y.0), list(?y.0)))", "op:F(list(?y.0), F(list(?y.0), list(?y.0)))", "(\\x:list(?y.0) . (\\y:list(?y.0) . some:list(?y.0)))")}, ErrDefine},
		{[]string{eq("F(N, N)", "s:F(N, N)", "(\\x:N . z:N)"), someAt("N", "(s:F(N, N) z:N)"), eq("N", "z:N", "some:N")}, ErrDefine}, {[]string{eq("F(N, N)", "s:F(N, N)", "(\\x:N . z:N)"), someAt("N", via("P", "N")), eq("N", "z:N", "some:N")}, api.OK},
		// what leads into a circle, but is not in it
		{[]string{someAt("P", via("N", "P")), someAt("N", "(s:F(N, N) z:N)"), eq("N", "z:N", "(s:F(N, N) z:N)")}, ErrDefine},
		// sorts play no part: no type is of both
		{[]string{eq("F(list(?x.0{ord}), F(list(?x.0{ord}), P))", "le:F(list(?x.0{ord}), F(list(?x.0{ord}), P))", "(\\x:list(?x.0{ord}) . (\\y:list(?x.0{ord}) . some:P))"), eq("F(list(?y.0{lin}), F(list(?y.0{lin}), P))", "le:F(list(?y.0{lin}), F(list(?y.0{lin}), P))", "(\\x:list(?y.0{lin}) . (\\y:list(?y.0{lin}) . some:P))")}, ErrDefine},
	} {
		for range 2 {
			thy := small()
			for k, s := range x.l {
				thy.Axioms = append(thy.Axioms, axiom(fmt.Sprint("d", k), api.Defining, s))
			}
			if e := Check(thy); e != x.e {
				t.Error(i, e)
			}
			slices.Reverse(x.l)
		}
	}
}

func TestP41Within(t *testing.T) {
	a := small()
	if !Within(a, a) || !Within(Pure(), a) || Within(a, Pure()) || !Within(api.Theory{}, Pure()) || !Within(api.Theory{}, api.Theory{}) {
		t.Error("Within")
	}
	for i, change := range []func(*api.Theory){
		func(x *api.Theory) { x.Classes = x.Classes[:1] }, func(x *api.Theory) { x.Classes[1].Supers = nil }, func(x *api.Theory) { x.Classes[1].Name = "k" },
		func(x *api.Theory) { x.Types = x.Types[1:] }, func(x *api.Theory) { x.Types[0].Arity = 3 }, func(x *api.Theory) { x.Arities = x.Arities[1:] }, func(x *api.Theory) { x.Arities[2].Sorts[0] = nil }, func(x *api.Theory) { x.Arities[2].Sorts = nil }, func(x *api.Theory) { x.Arities[2].Class = "lin" }, func(x *api.Theory) { x.Arities[2].Type = "nat" },
		func(x *api.Theory) { x.Consts = x.Consts[1:] }, func(x *api.Theory) { x.Consts[7].Type = typ("nat") }, func(x *api.Theory) { x.Consts[7].Name = "k" },
		func(x *api.Theory) { x.Axioms = x.Axioms[1:] }, func(x *api.Theory) { x.Axioms[1].Kind = 2 }, func(x *api.Theory) { x.Axioms[1].Prop = of("?A.0:P") }, func(x *api.Theory) { x.Axioms[1].Name = "k" },
		func(x *api.Theory) { x.Oracles = nil }, func(x *api.Theory) { x.Oracles[0] = "k" },
	} {
		b := small()
		change(&b)
		if Within(a, b) {
			t.Error(i)
		}
	}
	// in another order, under another name, with more, with the same name twice, with other names of abstractions
	b := small()
	b.Name = ""
	b.Axioms = append(b.Axioms, axiom("all", 0, "(all:F(F(N, P), P) (\\x:N . ?A.0:P))"))
	slices.Reverse(b.Consts)
	slices.Reverse(b.Types)
	slices.Reverse(b.Arities)
	slices.Reverse(b.Classes)
	b.Consts = append(append([]api.ConstDecl{decl("z", "P")}, b.Consts...), decl("y", "?b.9"))
	b.Oracles = append([]string{"k", "k"}, b.Oracles...)
	if !Within(a, b) || Within(b, a) {
		t.Error("in another order")
	}
	c := api.Theory{Axioms: []api.Axiom{axiom("all", 0, "(all:F(F(N, P), P) (\\other:N . ?A.0:P))")}, Types: []api.TypeDecl{{Name: "nat"}, {Name: "nat"}}, Arities: []api.Arity{{Type: "nat", Class: "ord", Sorts: [][]string{}}}}
	if !Within(c, b) {
		t.Error("any theories")
	}
}

func TestP41ConstAndAxiom(t *testing.T) {
	thy := small()
	thy.Consts = append(thy.Consts, decl("z", "P"))
	thy.Axioms = append(thy.Axioms, api.Axiom{Name: "z_s"})
	if k, ok := Const(thy, "z"); !ok || k.Name != "nat" {
		t.Error(k, ok)
	}
	if x, ok := Axiom(thy, "z_s"); !ok || text(x.Prop) != text(of(eq("N", "z:N", "(s:F(N, N) z:N)"))) || x.Name != "z_s" {
		t.Error(x, ok)
	}
	k, ok := Const(thy, "nat")
	x, is := Axiom(thy, "")
	if ok || is || k.Op != 0 || x.Name != "" || x.Prop.Op != 0 {
		t.Error(k, x)
	}
}

func TestP41Extend(t *testing.T) {
	a := small()
	more := api.Theory{
		Name: "1", Classes: []api.Class{{Name: "top"}}, Types: []api.TypeDecl{{Name: "set", Arity: 1}}, Arities: []api.Arity{{Type: "set", Class: "top", Sorts: [][]string{{"ord"}}}},
		Consts: []api.ConstDecl{decl("ord", "set(N)")}, Axioms: []api.Axiom{axiom("z", 0, eq("set(N)", "ord:set(N)", "ord:set(N)"))}, Oracles: []string{"z_s"},
	}
	b, e := Extend(a, "B", more)
	if e != api.OK || b.Name != "B" || !Within(a, b) || !Within(more, b) || Check(b) != api.OK || len(b.Consts) != len(a.Consts)+1 || b.Consts[len(a.Consts)].Name != "ord" || b.Types[5].Name != "set" || b.Oracles[1] != "z_s" {
		t.Error(e)
	}
	for i, x := range []struct {
		name string
		more api.Theory
		e    api.Errno
	}{
		{"B", api.Theory{}, api.OK}, {"1", api.Theory{}, api.ErrForm}, {"", api.Theory{Oracles: []string{"believe"}}, api.ErrDuplicate},
		{"B", api.Theory{Classes: []api.Class{{Name: "ord"}}}, api.ErrDuplicate}, {"B", api.Theory{Types: []api.TypeDecl{{Name: "nat"}}}, api.ErrDuplicate}, {"B", api.Theory{Arities: []api.Arity{{Type: "list", Class: "ord"}}}, api.ErrDuplicate}, {"B", api.Theory{Consts: []api.ConstDecl{{Name: "z"}}}, api.ErrDuplicate}, {"B", api.Theory{Axioms: []api.Axiom{{Name: "z_s"}}}, api.ErrDuplicate},
		{"", api.Theory{Classes: []api.Class{{Name: "ord"}}}, api.ErrDuplicate}, {"", api.Theory{Types: []api.TypeDecl{{Name: "nat"}}}, api.ErrDuplicate}, {"", api.Theory{Arities: []api.Arity{{Type: "list", Class: "ord"}}}, api.ErrDuplicate}, {"", api.Theory{Consts: []api.ConstDecl{{Name: "z"}}}, api.ErrDuplicate}, {"", api.Theory{Axioms: []api.Axiom{{Name: "z_s"}}}, api.ErrDuplicate}, {"", api.Theory{Arities: []api.Arity{{Type: "list", Class: "lin"}}}, api.ErrForm},
		{"B", api.Theory{Classes: []api.Class{{Name: ""}}, Axioms: []api.Axiom{{Name: "z_s"}}}, api.ErrDuplicate}, {"B", api.Theory{Classes: []api.Class{{Name: ""}}, Axioms: []api.Axiom{{}}}, sort.ErrName}, {"B", api.Theory{Oracles: []string{"k", "k"}}, api.ErrDuplicate},
		{"B", api.Theory{Arities: []api.Arity{{Type: "list", Class: "lin", Sorts: [][]string{{"lin"}}}}}, api.OK}, {"B", api.Theory{Arities: []api.Arity{{Type: "list", Class: "lin", Sorts: [][]string{nil}}}}, sort.ErrRegular}, {"B", api.Theory{Axioms: []api.Axiom{axiom("d", 1, eq("N", "z:N", "z:N"))}}, ErrDefine},
	} {
		b, e := Extend(a, x.name, x.more)
		if e != x.e || e != api.OK && (b.Name != "" || b.Types != nil) {
			t.Error(i, e, x.e)
		}
	}
	if _, e := Extend(api.Theory{Name: "T"}, "", Pure()); e != api.ErrTheory {
		t.Error("the error of the theory first", e)
	}
}

func TestP41Merge(t *testing.T) {
	a, _ := Extend(small(), "A", api.Theory{Types: []api.TypeDecl{{Name: "bit"}}, Oracles: []string{"a"}, Consts: []api.ConstDecl{decl("k", "bit")}})
	b, _ := Extend(small(), "B", api.Theory{Types: []api.TypeDecl{{Name: "set", Arity: 1}, {Name: "bit"}}, Oracles: []string{"b", "a"}, Arities: []api.Arity{{Type: "bit", Class: "ord"}}})
	m, e := Merge("M", a, b)
	if e != api.OK || m.Name != "M" || !Within(a, m) || !Within(b, m) || Check(m) != api.OK {
		t.Error(e)
	}
	var names []string
	for _, d := range m.Types {
		names = append(names, d.Name)
	}
	if strings.Join(append(names, m.Oracles...), " ") != "fun prop nat list pair bit set believe a b" {
		t.Error(names, m.Oracles)
	}
	other := small()
	other.Consts[4].Type = typ("prop")
	other.Axioms = other.Axioms[:1]
	wrong := small()
	wrong.Oracles[0] = ""
	for i, x := range []struct {
		name string
		a, b api.Theory
		e    api.Errno
	}{
		{"M", small(), other, api.ErrTheory}, {"M", other, small(), api.ErrTheory}, {"", small(), other, api.ErrTheory}, {"", a, b, api.ErrForm}, {"M", wrong, api.Theory{Name: "T"}, api.ErrForm}, {"M", api.Theory{Name: "T"}, wrong, api.ErrTheory}, {"M", Pure(), wrong, api.ErrForm}, {"M", Pure(), Pure(), api.OK},
	} {
		m, e := Merge(x.name, x.a, x.b)
		if e != x.e || e != api.OK && (m.Name != "" || m.Types != nil) {
			t.Error(i, e, x.e)
		}
	}
	// each one is right, but not both together
	one := small()
	one.Axioms = append(one.Axioms, axiom("d", 1, eq("N", "z:N", "(hd:F(list(N), N) some:list(N))")))
	two := small()
	two.Axioms = append(two.Axioms, axiom("e", 1, eq("list(?x.0)", "some:list(?x.0)", "(two:F(N, list(?x.0)) z:N)")))
	three := small()
	three.Axioms = append(three.Axioms, axiom("f", 1, eq("F(?a.0, ?b.0)", "two:F(?a.0, ?b.0)", "(\\x:?a.0 . (hd:F(list(?b.0), ?b.0) some:list(?b.0)))")))
	for _, x := range [][2]api.Theory{{one, two}, {two, one}, {two, three}, {three, two}} {
		if _, e := Merge("M", x[0], x[1]); e != ErrDefine {
			t.Error(e)
		}
	}
	if _, e := Merge("M", one, three); e != api.OK {
		t.Error(e)
	}
	many, more := Pure(), Pure()
	for i := range 200 {
		many.Oracles = append(many.Oracles, fmt.Sprint("a", i))
		more.Oracles = append(more.Oracles, fmt.Sprint("b", i))
	}
	if _, e := Merge("M", many, more); e != api.ErrCount {
		t.Error(e)
	}
}

func TestP41Define(t *testing.T) {
	for i, x := range []struct {
		c, rhs, want string
		e            api.Errno
	}{
		{"id", "(\\x:'a . #0)", "((eq:fun(fun(?a.0, ?a.0), fun(fun(?a.0, ?a.0), prop)) id:fun(?a.0, ?a.0)) (\\x:?a.0 . #0))", api.OK},
		{"one", "(s:F(N, N) z:N)", "((eq:fun(nat, fun(nat, prop)) one:nat) (s:fun(nat, nat) z:nat))", api.OK},
		{"geq", "(\\x:'b{ord} . (\\y:'b{ord} . ((le:F('b{ord}, F('b{ord}, P)) #0) #1)))", "((eq:fun(fun(?b.0{ord}, fun(?b.0{ord}, prop)), fun(fun(?b.0{ord}, fun(?b.0{ord}, prop)), prop)) geq:fun(?b.0{ord}, fun(?b.0{ord}, prop))) (\\x:?b.0{ord} . (\\y:?b.0{ord} . ((le:fun(?b.0{ord}, fun(?b.0{ord}, prop)) #0) #1))))", api.OK},
		{"k", "$x:N", "", ErrDefine}, {"k", "?x.0:N", "", ErrDefine}, {"k", "(\\x:?a.0 . #0)", "", ErrDefine}, {"z", "(\\x:?a.0 . #0)", "", ErrDefine}, {"k", "(\\x:'a . ?y.0:'a)", "", ErrDefine},
		{"k", "k:N", "", api.ErrMissing}, {"", "q:N", "", api.ErrMissing}, {"k", "($x:N $y:N)", "", api.ErrType}, {"k", "(\\x:'a . some:'a{ord})", "", api.ErrSort},
		{"k", "((\\x:'a . z:N) some:'a)", "", ErrDefine}, // a type variable that is not in the type
		{"z", "z:N", "", api.ErrDuplicate}, {"z_s", "z:N", "", api.OK}, {"", "z:N", "", api.ErrForm}, {"1", "z:N", "", api.ErrForm}, {strings.Repeat("k", 36), "z:N", "", api.OK}, {strings.Repeat("k", 37), "z:N", "", api.ErrForm}, {"protect'", "z:N", "", api.OK},
	} {
		thy, e := Define(small(), "T", x.c, of(x.rhs))
		if e != x.e || e != api.OK && thy.Name != "" {
			t.Error(i, e, x.e)
		}
		if e != api.OK {
			continue
		}
		d, ok := Axiom(thy, x.c+"_def")
		if !ok || d.Kind != api.Defining || x.want != "" && text(d.Prop) != x.want || !Within(small(), thy) || thy.Name != "T" {
			t.Error(i, text(d.Prop))
		}
	}
	if _, e := Define(small(), "T", "protect'", of("z:N")); e != api.OK {
		t.Error(e)
	}
	taken, _ := Extend(small(), "T", api.Theory{Axioms: []api.Axiom{axiom("k_def", 0, "?A.0:P")}})
	if _, e := Define(taken, "T", "k", of("z:N")); e != api.ErrDuplicate {
		t.Error(e)
	}
	if _, e := Define(small(), "1", "k", of("z:N")); e != api.ErrForm {
		t.Error(e)
	}
	if _, e := Define(api.Theory{Name: "T"}, "T", "k", api.Term{}); e != api.ErrTheory {
		t.Error(e)
	}
	if _, e := Define(small(), "T", "k", api.Term{}); e != api.ErrForm {
		t.Error(e)
	}
}

func TestP41Overload(t *testing.T) {
	for i, x := range []struct {
		c, at, rhs, name string
		e                api.Errno
	}{
		{"op", "nat", "(\\x:N . s:F(N, N))", "op_nat_def", api.OK}, {"some", "list('a)", "(two:F(N, list('a)) z:N)", "some_list_def", api.OK}, {"some", "pair('b, 'a)", "((two:F('a, F('b, pair('b, 'a))) some:'a) some:'b)", "some_pair_def", api.OK}, {"some", "prop", "(all:F(F(P, P), P) (\\x:P . #0))", "some_prop_def", api.OK},
		{"le", "list('a{ord})", "(\\x:list('a{ord}) . (\\y:list('a{ord}) . ((le:F('a{ord}, F('a{ord}, P)) (hd:F(list('a{ord}), 'a{ord}) #1)) some:'a{ord})))", "le_list_def", api.OK},
		{"q", "1", "z:N", "", api.ErrMissing}, {"z", "set", "z:N", "", ErrDefine}, {"two", "set", "z:N", "", ErrDefine}, {"op", "set", "z:P", "", api.ErrMissing}, {"op", "list", "z:P", "", api.ErrCount}, {"op", "1", "z:P", "", api.ErrForm}, {"op", "pair('a, 'a{ord})", "z:P", "", api.ErrSort},
		{"op", "nat", "z:P", "", api.ErrType}, {"op", "nat", "q:N", "", api.ErrMissing}, {"op", "nat", "$x:P", "", ErrDefine}, {"op", "nat", "?x.0:P", "", ErrDefine}, {"op", "nat", "(\\x:?a.0 . #0)", "", ErrDefine}, {"op", "nat", "z:N", "", api.ErrType}, {"some", "list('a)", "(two:F(N, list('b)) z:N)", "", api.ErrType},
		{"some", "list(nat)", "(two:F(N, list(N)) z:N)", "", ErrDefine}, {"some", "pair('a, 'a)", "(two:F(N, pair('a, 'a)) z:N)", "", ErrDefine}, {"some", "list(list('a))", "(two:F(N, list(list('a))) z:N)", "", ErrDefine},
		{"some", "'b", "(two:F(N, 'b) z:N)", "", ErrDefine}, {"some", "'a", "(two:F(N, 'a) z:N)", "", ErrDefine}, {"some", "?a.0", "(two:F(N, 'a) z:N)", "", api.ErrType}, {"some", "list(?a.0)", "(two:F(N, list('a)) z:N)", "", api.ErrType},
		{"le", "prop", "(\\x:P . (\\y:P . #0))", "", api.ErrType}, {"le", "list('a{lin})", "(\\x:list('a{lin}) . (\\y:list('a{lin}) . some:P))", "le_list_def", api.OK}, // P has not the class ord
		{"protect", "nat", "z:N", "", ErrDefine}, {"all", "nat", "(\\x:F(N, P) . (#0 z:N))", "", ErrDefine}, {"some", "nat", "some:N", "", ErrDefine}, {"some", "list('a)", "(two:F('a, list('a)) (hd:F(list('a), 'a) some:list('a)))", "", ErrDefine},
	} {
		thy, e := Overload(small(), "T", x.c, typ(x.at), of(x.rhs))
		if e != x.e || e != api.OK && thy.Name != "" {
			t.Error(i, x.c, x.at, e, x.e)
		}
		if e != api.OK {
			continue
		}
		d, ok := Axiom(thy, x.name)
		if !ok || d.Kind != api.Defining || len(thy.Axioms) != 3 || Check(thy) != api.OK || !Within(small(), thy) {
			t.Error(i, thy.Axioms[2].Name)
		}
	}
	thy, _ := Overload(small(), "T", "some", typ("list('a)"), of("(two:F(N, list('a)) z:N)"))
	if s := text(thy.Axioms[2].Prop); s != "((eq:fun(list(?a.0), fun(list(?a.0), prop)) some:list(?a.0)) (two:fun(nat, list(?a.0)) z:nat))" {
		t.Error(s)
	}
	if _, e := Overload(thy, "T", "some", typ("list('b)"), of("(two:F(P, list('b)) some:P)")); e != api.ErrDuplicate {
		t.Error(e)
	}
	if _, e := Overload(thy, "1", "some", typ("nat"), of("z:N")); e != api.ErrForm {
		t.Error(e)
	}
	if _, e := Overload(api.Theory{Name: "T"}, "T", "some", api.Type{}, api.Term{}); e != api.ErrTheory {
		t.Error(e)
	}
}

// The signature of a theory is that of its constants, and a copy shares no memory with it.
func TestP41SignAndCopy(t *testing.T) {
	thy := small()
	g, e := Sign(thy)
	k, ok := g.Const("hd")
	if e != api.OK || !ok || !types.Equal(k, typ("fun(list(?a.0), ?a.0)")) {
		t.Error(k, ok, e)
	}
	before := fmt.Sprint(thy)
	c := Copy(thy)
	if fmt.Sprint(c) != before {
		t.Error(c)
	}
	spoil(c)
	if fmt.Sprint(thy) != before {
		t.Error("a copy shares memory")
	}
	spoil(thy)
	if k, _ := g.Const("hd"); !types.Equal(k, typ("fun(list(?a.0), ?a.0)")) {
		t.Error("a signature shares memory")
	}
	for _, bad := range []api.Theory{{}, {Name: "T"}, thy} {
		if _, e := Sign(bad); e == api.OK || e != Check(bad) {
			t.Error(e)
		}
	}
}
