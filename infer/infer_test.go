package infer

import (
	"fmt"
	"slices"
	"strings"
	"testing"

	"triforium/api"
	"triforium/sort"
	"triforium/term"
	"triforium/theory"
	"triforium/types"
)

func deep(n int, t api.Term) api.Term {
	for range n {
		t = api.Term{Op: api.Abs, Kids: []api.Term{t}}
	}
	return t
}

// balanced returns a term of applications with so many leaves.
func balanced(leaves int, leaf api.Term) api.Term {
	if leaves == 1 {
		return leaf
	}
	return api.Term{Op: api.App, Kids: []api.Term{balanced(leaves/2, leaf), balanced(leaves-leaves/2, leaf)}}
}

func TestP171Form(t *testing.T) {
	nat := of("nat")
	x := api.Term{Op: api.Free, Name: "x"}
	app := func(l ...api.Term) api.Term { return api.Term{Op: api.App, Kids: l} }
	abs := func(l ...api.Term) api.Term { return api.Term{Op: api.Abs, Name: "x", Kids: l} }
	bound := api.Term{Op: api.Bound}
	for i, c := range []struct {
		t api.Term
		e api.Errno
	}{
		{x, api.OK}, {raw("(\\x:nat . (f #0 [?y.3 :nat]))"), api.OK}, {api.Term{}, api.ErrForm}, {api.Term{Op: 8}, api.ErrForm}, {api.Term{Op: -1}, api.ErrForm}, {api.Term{Op: api.Free}, api.ErrForm}, {api.Term{Op: api.Const, Name: "1"}, api.ErrForm}, {api.Term{Op: api.Var, Name: "a b"}, api.ErrForm}, {api.Term{Op: api.Free, Name: strings.Repeat("x", 41)}, api.ErrForm},
		{api.Term{Op: api.Free, Name: "x", Num: 1}, api.ErrForm}, {api.Term{Op: api.Const, Name: "x", Num: 1}, api.ErrForm}, {api.Term{Op: api.Var, Name: "x", Num: 1000001}, api.OK}, {api.Term{Op: api.Var, Name: "x", Num: -1}, api.ErrForm}, {api.Term{Op: api.Free, Name: "x", Kids: []api.Term{x}}, api.ErrForm},
		{abs(x), api.OK}, {api.Term{Op: api.Abs, Name: "no name", Kids: []api.Term{x}}, api.OK}, {abs(), api.ErrForm}, {abs(x, x), api.ErrForm}, {api.Term{Op: api.Abs, Num: 1, Kids: []api.Term{x}}, api.ErrForm}, {app(x, x), api.OK}, {app(x), api.ErrForm}, {app(x, x, x), api.ErrForm}, {api.Term{Op: api.App, Name: "a", Kids: []api.Term{x, x}}, api.ErrForm}, {api.Term{Op: api.App, Type: nat, Kids: []api.Term{x, x}}, api.ErrForm}, {api.Term{Op: api.App, Num: 1, Kids: []api.Term{x, x}}, api.ErrForm},
		{bound, term.ErrLoose}, {abs(bound), api.OK}, {abs(api.Term{Op: api.Bound, Num: 1}), term.ErrLoose}, {abs(api.Term{Op: api.Bound, Num: -1}), api.ErrForm}, {abs(api.Term{Op: api.Bound, Name: "x"}), api.ErrForm}, {abs(api.Term{Op: api.Bound, Type: nat}), api.ErrForm}, {abs(api.Term{Op: api.Bound, Kids: []api.Term{x}}), api.ErrForm}, {app(abs(bound), bound), term.ErrLoose}, {app(bound, api.Term{}), term.ErrLoose}, {app(api.Term{}, bound), api.ErrForm},
		{api.Term{Op: Constraint, Type: nat, Kids: []api.Term{x}}, api.OK}, {api.Term{Op: Constraint, Kids: []api.Term{x}}, api.ErrForm}, {api.Term{Op: Constraint, Type: nat}, api.ErrForm}, {api.Term{Op: Constraint, Type: nat, Kids: []api.Term{x, x}}, api.ErrForm}, {api.Term{Op: Constraint, Name: "x", Type: nat, Kids: []api.Term{x}}, api.ErrForm}, {api.Term{Op: Constraint, Num: 1, Type: nat, Kids: []api.Term{x}}, api.ErrForm}, {abs(api.Term{Op: Constraint, Type: nat, Kids: []api.Term{bound}}), api.OK}, {api.Term{Op: Constraint, Type: nat, Kids: []api.Term{bound}}, term.ErrLoose},
		{api.Term{Op: api.Free, Name: "x", Type: api.Type{Op: 4}}, api.ErrForm}, {api.Term{Op: api.Free, Name: "x", Type: api.Type{Name: "a"}}, api.ErrForm}, {api.Term{Op: api.Free, Name: "x", Type: api.Type{Index: 1}}, api.ErrForm}, {api.Term{Op: api.Free, Name: "x", Type: api.Type{Sort: []string{}, Args: []api.Type{}}}, api.OK}, {api.Term{Op: api.Free, Name: "x", Type: of("?a.1000000")}, api.OK}, {api.Term{Op: api.Free, Name: "x", Type: api.Type{Op: api.TVar, Name: "a", Index: 1000001}}, api.ErrForm}, {abs(api.Term{Op: api.Abs, Type: api.Type{Op: 9}, Kids: []api.Term{x}}), api.ErrForm},
		{deep(499, x), api.OK}, {deep(500, x), api.ErrDepth}, {deep(500, api.Term{}), api.ErrDepth}, {deep(19999, x), api.ErrDepth}, {deep(20000, x), api.ErrCount}, {balanced(10000, x), api.OK}, {balanced(10001, x), api.ErrCount}, {balanced(10001, api.Term{}), api.ErrCount}, {deep(1<<16, x), api.ErrCount}, {deep(1, balanced(10000, x)), api.OK}, {deep(2, balanced(10000, x)), api.ErrCount},
	} {
		if e := Form(c.t); e != c.e {
			t.Error(i, e)
		}
	}
	tall := nat
	for range 500 {
		tall = api.Type{Op: api.TCon, Name: "list", Args: []api.Type{tall}}
	}
	if e := Form(api.Term{Op: api.Free, Name: "x", Type: tall}); e != api.ErrForm {
		t.Error("the error of a type is one of the form", e)
	}
}

func TestP171Term(t *testing.T) {
	for i, c := range []struct {
		known, raw, want, out string
		e                     api.Errno
	}{
		{"", "(\\x . #0)", "", "(\\x:'a . #0)", api.OK}, {"", "$x", "", "$x:'a", api.OK}, {"", "$x", "nat", "$x:nat", api.OK}, {"x:bool", "$x", "", "$x:bool", api.OK}, {"x:bool", "$x", "nat", "", api.ErrType}, {"x:bool", "?x.0", "", "?x.0:'a", api.OK}, {"x:bool;x:nat", "$x", "", "$x:bool", api.OK}, {"x:'a;y:'c{c}", "(mk $x $z)", "", "(mk:fun('a, fun('b, pair('a, 'b))) $x:'a $z:'b)", api.OK},
		{"", "(suc zero)", "", "(suc:fun(nat, nat) zero:nat)", api.OK}, {"", "(suc true)", "", "", api.ErrType}, {"", "(zero zero)", "", "", api.ErrType}, {"", "($f $f)", "", "", api.ErrType}, {"", "(id id)", "", "(id:fun(fun('a, 'a), fun('a, 'a)) id:fun('a, 'a))", api.OK}, {"", "(cons zero nil)", "", "(cons:fun(nat, fun(list(nat), list(nat))) zero:nat nil:list(nat))", api.OK}, {"", "(cons zero (cons true nil))", "", "", api.ErrType},
		{"", "least", "", "least:'a{c}", api.OK}, {"", "least", "bool", "", api.ErrSort}, {"", "least", "list(bool)", "", api.ErrSort}, {"", "least", "list(list(nat))", "least:list(list(nat))", api.OK}, {"", "least", "fun(nat, nat)", "", api.ErrSort}, {"", "(dee least)", "", "(dee:fun('a{c,d}, bool) least:'a{c,d})", api.OK}, {"", "(dee (cons least nil))", "", "(dee:fun(list('a{c,d}), bool) (cons:fun('a{c,d}, fun(list('a{c,d}), list('a{c,d}))) least:'a{c,d} nil:list('a{c,d})))", api.OK}, {"", "(dee zero)", "", "", api.ErrSort}, {"x:'b{e}", "(dee $x)", "", "(dee:fun('b{e}, bool) $x:'b{e})", api.OK}, {"x:'b{c}", "(dee $x)", "", "", api.ErrSort}, {"x:?b.7{e}", "(same least $x)", "", "(same:fun(?b.7{e}, fun(?b.7{e}, prop)) least:?b.7{e} $x:?b.7{e})", api.OK}, {"x:?b.7", "(same least $x)", "", "", api.ErrSort},
		// a type that a node has is not that of its name; a constant's is an instance
		{"", "(mk $x:nat $x)", "", "", api.ErrType}, {"", "(cons $x:nat (cons $x nil))", "", "(cons:fun(nat, fun(list(nat), list(nat))) $x:nat (cons:fun(nat, fun(list(nat), list(nat))) $x:nat nil:list(nat)))", api.OK}, {"x:bool", "$x:nat", "", "$x:nat", api.OK}, {"", "(mk $x $x)", "", "(mk:fun('a, fun('a, pair('a, 'a))) $x:'a $x:'a)", api.OK}, {"", "(mk ?x.0 ?x.1)", "", "(mk:fun('a, fun('b, pair('a, 'b))) ?x.0:'a ?x.1:'b)", api.OK}, {"", "(mk ?x.3 ?x.3)", "", "(mk:fun('a, fun('a, pair('a, 'a))) ?x.3:'a ?x.3:'a)", api.OK}, {"", "(mk $x ?x.0)", "", "(mk:fun('a, fun('b, pair('a, 'b))) $x:'a ?x.0:'b)", api.OK},
		{"", "id:fun(nat, nat)", "", "id:fun(nat, nat)", api.OK}, {"", "id:fun(nat, bool)", "", "", api.ErrType}, {"", "id:fun(?a.0, ?a.0)", "", "id:fun(?a.0, ?a.0)", api.OK}, {"", "id:fun(?a.0, ?a.1)", "", "", api.ErrType}, {"", "least:bool", "", "", api.ErrSort}, {"", "least:?a.0{c}", "", "least:?a.0{c}", api.OK}, {"", "least:?a.0", "", "", api.ErrSort}, {"", "least:'a{d}", "", "", api.ErrSort}, {"", "dee:fun(nat, nat)", "", "", api.ErrSort}, {"", "zero:bool", "", "", api.ErrType}, {"", "id:nat", "", "", api.ErrType},
		{"", "[id :fun(nat, nat)]", "", "id:fun(nat, nat)", api.OK}, {"", "(\\x . [#0 :list('b)])", "", "(\\x:list('b) . #0)", api.OK}, {"", "[[$x :nat] :nat]", "", "$x:nat", api.OK}, {"", "[[$x :nat] :bool]", "", "", api.ErrType}, {"", "[zero :?a.0]", "", "", api.ErrType}, {"", "(\\x:?a.0 . [#0 :?a.0])", "", "(\\x:?a.0 . #0)", api.OK}, {"", "(\\x:?a.0 . [#0 :?a.1])", "", "", api.ErrType}, {"", "(\\x:'a . [#0 :?a.0])", "", "", api.ErrType},
		// the names of types that are left
		{"", "(\\x . (\\y:'a . (mk #0 #1)))", "", "(\\x:'b . (\\y:'a . (mk:fun('a, fun('b, pair('a, 'b))) #0 #1)))", api.OK}, {"k:list('b)", "(mk $x $y)", "", "(mk:fun('a, fun('c, pair('a, 'c))) $x:'a $y:'c)", api.OK}, {"", "[(mk $x $y) :pair(nat, 'a)]", "", "(mk:fun(nat, fun('a, pair(nat, 'a))) $x:nat $y:'a)", api.OK}, {"", "(mk $x:?a.0 $y)", "", "(mk:fun(?a.0, fun('a, pair(?a.0, 'a))) $x:?a.0 $y:'a)", api.OK}, {"", "any", "", "any:'a", api.OK}, {"", "(any any)", "", "(any:fun('a, 'b) any:'a)", api.OK},
		// errors where they are met
		{"", "none", "", "", ErrUnknown}, {"", "(mk (suc true) none)", "", "", api.ErrType}, {"", "(mk none (suc true))", "", "", ErrUnknown}, {"", "(dee zero none)", "", "", api.ErrSort}, {"", "((dee zero) none)", "", "", api.ErrSort}, {"", "(true none)", "", "", ErrUnknown}, {"", "(none none)", "fun(nat)", "", api.ErrCount}, {"", "none:fun(nat)", "", "", api.ErrCount}, {"", "[$x :set]", "", "", api.ErrMissing}, {"", "$x:'a{c,e}", "", "", api.ErrSort}, {"", "(mk $x:'a $y:'a{c})", "", "", api.ErrSort}, {"x:'a", "none", "'a{c}", "", api.ErrSort}, {"x:'a;x:'a{c}", "none", "", "", api.ErrSort}, {"x:?a.0", "none", "list(?a.0{d})", "", api.ErrSort}, {"x:?a.0", "$x", "", "$x:?a.0", api.OK},
		{"", "?x.1000001", "", "", api.ErrRange},
	} {
		var known []Known
		for _, k := range strings.Split(c.known, ";") {
			if name, typ, ok := strings.Cut(k, ":"); ok {
				known = append(known, Known{name, of(typ)})
			}
		}
		out, e := Term(little(), known, raw(c.raw), of(c.want))
		s := ""
		if e == api.OK {
			s = show(out)
		}
		if e != c.e || s != c.out || e != api.OK && out.Op != 0 {
			t.Error(i, c.raw, s, e)
		}
		naive, e2 := naiveTerms(little(), known, []api.Term{raw(c.raw)}, []api.Type{of(c.want)})
		if e != e2 || e == api.OK && show(naive[0]) != s {
			t.Error(i, "naive", e2)
		}
	}
}

func TestP171Terms(t *testing.T) {
	// the terms share the variables of names, and the names of types
	l, e := Terms(little(), nil, []api.Term{raw("(mk $x $y)"), raw("(suc $x)"), raw("(\\z . $y)")}, ofAll("", "nat", ""))
	if e != api.OK || show(l[0]) != "(mk:fun(nat, fun('a, pair(nat, 'a))) $x:nat $y:'a)" || show(l[1]) != "(suc:fun(nat, nat) $x:nat)" || show(l[2]) != "(\\z:'b . $y:'a)" {
		t.Error(l, e)
	}
	if l, e := Terms(little(), nil, nil, nil); e != api.OK || len(l) != 0 {
		t.Error(l, e)
	}
	bad := api.Term{}
	known := func(n int) []Known { return slices.Repeat([]Known{{"x", of("nat")}}, n) }
	thy := little()
	thy.Name = ""
	for i, c := range []struct {
		thy   api.Theory
		known []Known
		raw   []api.Term
		want  []api.Type
		e     api.Errno
	}{
		{thy, known(61), []api.Term{bad}, nil, api.ErrForm}, {little(), known(61), []api.Term{bad}, nil, api.ErrCount}, {little(), known(60), []api.Term{bad}, nil, api.ErrArgument}, {little(), known(60), []api.Term{raw("$x")}, ofAll(""), api.OK}, {little(), nil, slices.Repeat([]api.Term{bad}, 21), nil, api.ErrCount}, {little(), nil, slices.Repeat([]api.Term{raw("zero")}, 20), slices.Repeat(ofAll(""), 20), api.OK}, {little(), nil, slices.Repeat([]api.Term{raw("zero")}, 20), slices.Repeat(ofAll(""), 21), api.ErrArgument},
		{little(), []Known{{"x", of("set")}}, []api.Term{raw("zero"), {Op: api.Bound}, bad}, ofAll("", "", ""), term.ErrLoose}, {little(), []Known{{"x", of("set")}}, []api.Term{raw("zero:fun")}, ofAll(""), api.ErrMissing}, {little(), []Known{{"x", api.Type{}}}, []api.Term{raw("zero")}, ofAll(""), api.ErrForm}, {little(), []Known{{"", of("nat")}}, []api.Term{raw("zero")}, ofAll(""), api.OK}, {little(), nil, []api.Term{raw("zero:fun")}, ofAll("set"), api.ErrCount}, {little(), nil, []api.Term{raw("none"), raw("zero:fun")}, ofAll("set", ""), api.ErrCount},
		{little(), nil, []api.Term{raw("none")}, []api.Type{{Op: 9}}, api.ErrForm}, {little(), nil, []api.Term{raw("zero"), raw("$x")}, ofAll("bool", "set"), api.ErrMissing}, {little(), nil, []api.Term{raw("zero"), raw("none")}, ofAll("bool", ""), api.ErrType}, {little(), nil, []api.Term{raw("(mk $x:nat $x:bool)"), raw("none")}, ofAll("", ""), ErrUnknown}, {little(), nil, []api.Term{raw("$x:nat"), raw("$x:bool")}, ofAll("", ""), api.OK},
	} {
		if l, e := Terms(c.thy, c.known, c.raw, c.want); e != c.e || e != api.OK && l != nil {
			t.Error(i, e)
		}
	}
	// what is a name in an Abs is asked at last
	odd := api.Term{Op: api.Abs, Name: "no name", Kids: []api.Term{raw("zero")}}
	if _, e := Term(little(), nil, odd, api.Type{}); e != api.ErrForm {
		t.Error(e)
	}
	if _, e := Term(little(), nil, api.Term{Op: api.App, Kids: []api.Term{odd, raw("none")}}, api.Type{}); e != ErrUnknown {
		t.Error(e)
	}
	if _, e := Term(api.Theory{Name: "T", Classes: []api.Class{{}}}, nil, bad, api.Type{}); e != sort.ErrName {
		t.Error(e)
	}
	if _, e := Term(api.Theory{Name: "T"}, nil, bad, api.Type{}); e != api.ErrTheory {
		t.Error(e)
	}
}

// Many variables are left.
func TestP171Names(t *testing.T) {
	x := raw("zero")
	for i := range 60 {
		x = api.Term{Op: api.App, Kids: []api.Term{api.Term{Op: api.App, Kids: []api.Term{raw("mk"), x}}, api.Term{Op: api.Free, Name: fmt.Sprint("x", i)}}}
	}
	out, e := Term(little(), []Known{{"k", of("list('c)")}, {"l", of("fun('b1, 'd2)")}}, x, api.Type{})
	if e != api.OK {
		t.Fatal(e)
	}
	var got []string
	for n := range term.Nodes(out) {
		for v := range types.Nodes(n.Type) {
			if v.Op == api.TFree && !slices.Contains(got, v.Name) {
				got = append(got, v.Name)
			}
		}
	}
	want := strings.Fields("a b d e f g h i j k l m n o p q r s t u v w x y z a1 c1 d1 e1 f1 g1 h1 i1 j1 k1 l1 m1 n1 o1 p1 q1 r1 s1 t1 u1 v1 w1 x1 y1 z1 a2 b2 c2 e2 f2 g2 h2 i2 j2 k2")
	if !slices.Equal(got, want) {
		t.Error(got)
	}
}

// A variable stands for a type of 2000 nodes at most.
func TestP171Large(t *testing.T) {
	list := func(n int) api.Type { // with n nodes
		l := []api.Type{}
		for range (n + 1) / 2 {
			l = append(l, of("nat"))
		}
		for len(l) > 1 {
			l = append(l[2:], api.Type{Op: api.TCon, Name: "pair", Args: []api.Type{l[0], l[1]}})
		}
		if n%2 == 0 {
			return api.Type{Op: api.TCon, Name: "list", Args: l}
		}
		return l[0]
	}
	free := func(n int) api.Term { return api.Term{Op: api.Free, Name: "x", Type: list(n)} }
	app := func(l ...api.Term) api.Term { return term.Apps(l[0], l[1:]) }
	of := func(n int) api.Term { return api.Term{Op: api.Free, Name: "f", Type: types.Fun(of("nat"), list(n))} }
	for i, c := range []struct {
		t api.Term
		e api.Errno
	}{
		{free(2001), api.OK}, {app(raw("id"), free(2000)), api.OK}, {app(raw("id"), free(2001)), api.ErrLarge}, {app(of(2000), raw("zero")), api.OK}, {app(of(2001), raw("zero")), api.ErrLarge}, {app(raw("$g"), free(1997)), api.OK}, {app(raw("$g"), free(1998)), api.OK}, {app(raw("$g"), free(1999)), api.ErrLarge}, {app(api.Term{Op: api.Free, Name: "h", Type: types.Fun(list(2001), list(5))}, free(2001)), api.OK},
		{app(raw("mk"), free(1001), app(raw("none"))), ErrUnknown}, {app(raw("mk"), free(2001), app(raw("none"))), api.ErrLarge}, {app(raw("(mk zero)"), app(raw("mk"), free(1001), free(1001))), api.ErrLarge},
	} {
		if _, e := Term(little(), nil, c.t, api.Type{}); e != c.e {
			t.Error(i, e)
		}
		if _, e := naiveTerms(little(), nil, []api.Term{c.t}, []api.Type{{}}); e != c.e {
			t.Error(i, "naive", e)
		}
	}
	// each one has the type of pairs of the one within it
	x := raw("zero")
	for range 100 {
		x = app(raw("(\\x . (mk #0 #0))"), x)
	}
	if _, e := Term(little(), nil, x, api.Type{}); e != api.ErrLarge {
		t.Error(e)
	}
	// lists within each other: the types of the result are too deep
	y := raw("nil")
	for range 400 {
		y = app(raw("(\\x . (cons #0 nil))"), y)
	}
	if _, e := Term(little(), nil, y, api.Type{}); e != api.OK {
		t.Error(e)
	}
	for range 99 {
		y = app(raw("(\\x . (cons #0 nil))"), y)
	}
	if _, e := Term(little(), nil, y, api.Type{}); e != api.ErrDepth {
		t.Error(e)
	}
}

// Terms that are nearly as large as they may be.
func TestP171Big(t *testing.T) {
	l := []api.Term{}
	for i := range 3000 {
		l = append(l, api.Term{Op: api.Free, Name: fmt.Sprint("x", i)})
	}
	for len(l) > 1 {
		l = append(l[2:], term.Apps(raw("(\\x . (\\y . zero))"), l[:2]))
	}
	if out, e := Term(little(), nil, l[0], api.Type{}); e != api.OK {
		t.Error(e)
	} else if n, _ := term.Size(out); n != 3000+2999*5 {
		t.Error(n)
	}
}

func TestP171Choose(t *testing.T) {
	readings := func(l ...string) []api.Term {
		var out []api.Term
		for _, s := range l {
			out = append(out, raw(s))
		}
		return out
	}
	wrong := little()
	wrong.Name = "1"
	for i, c := range []struct {
		thy  api.Theory
		l    []api.Term
		want string
		out  string
		at   int
		e    api.Errno
	}{
		{little(), readings("(suc zero)"), "", "(suc:fun(nat, nat) zero:nat)", 0, api.OK}, {little(), readings("(suc true)", "none", "$x"), "nat", "$x:nat", 2, api.OK}, {little(), readings("$x", "zero"), "bool", "$x:bool", 0, api.OK}, {little(), readings("$x", "zero"), "nat", "", 0, ErrAmbiguous}, {little(), readings("zero", "zero"), "nat", "", 0, ErrAmbiguous}, {little(), readings("none", "zero", "(suc true)", "zero"), "", "", 0, ErrAmbiguous},
		{little(), nil, "", "", 0, api.ErrMissing}, {little(), readings("none", "(suc true)"), "", "", 0, ErrUnknown}, {little(), readings("(suc true)", "none"), "", "", 0, api.ErrType}, {wrong, readings("zero"), "", "", 0, api.ErrForm}, {wrong, nil, "", "", 0, api.ErrMissing}, {little(), readings("zero", "none"), "set", "", 0, api.ErrMissing},
	} {
		out, at, e := Choose(c.thy, nil, c.l, of(c.want))
		s := ""
		if out.Op != 0 {
			s = show(out)
		}
		if s != c.out || at != c.at || e != c.e {
			t.Error(i, s, at, e)
		}
	}
	if _, _, e := Choose(little(), make([]Known, 61), readings("zero"), api.Type{}); e != api.ErrCount {
		t.Error(e)
	}
}

func TestP171Erase(t *testing.T) {
	x := raw("(\\x:nat . [(f:fun(nat, nat) [[?y.3:nat :nat] :nat] $z:'a #0) :prop])")
	if s := show(Erase(x)); s != "(\\x . (f ?y.3 $z #0))" {
		t.Error(s)
	}
	nat := of("nat")
	odd := api.Term{Op: Constraint, Name: "a", Num: 7, Type: nat, Kids: []api.Term{raw("$x:nat"), {Op: 99, Type: nat, Kids: []api.Term{raw("[zero:nat :nat]")}}}}
	out := Erase(odd)
	if out.Op != Constraint || out.Name != "a" || out.Num != 7 || !types.Equal(out.Type, nat) || len(out.Kids) != 2 || show(out.Kids[0]) != "$x" || out.Kids[1].Op != 99 || !types.Equal(out.Kids[1].Type, nat) || show(out.Kids[1].Kids[0]) != "zero" {
		t.Error("nodes that are none of raw terms")
	}
	if !term.Equal(Erase(api.Term{}), api.Term{}) {
		t.Error("the zero term")
	}
	if n, _ := term.Size(Erase(deep(1<<16, raw("$x:nat")))); n != 1<<16+1 {
		t.Error(n)
	}
}

func TestP171Pinned(t *testing.T) {
	for i, c := range []struct {
		known []Known
		t     string
		out   string
		e     api.Errno
	}{
		{nil, "(\\x:'a . #0)", "(\\x . #0)", api.OK}, {nil, "(\\x:'b . #0)", "(\\x:'b . #0)", api.OK}, {nil, "(\\x:nat . #0)", "(\\x:nat . #0)", api.OK}, {nil, "(suc:fun(nat, nat) $x:nat)", "(suc $x)", api.OK}, {[]Known{{"x", of("nat")}}, "$x:nat", "$x", api.OK}, {[]Known{{"x", of("nat")}}, "$x:bool", "$x:bool", api.OK}, {nil, "(\\x:'a . (\\y:'b . #0))", "(\\x . (\\y . #0))", api.OK}, {nil, "(\\x:'b . (\\y:'a . #0))", "(\\x . (\\y:'a . #0))", api.OK},
		{nil, "(cons:fun(nat, fun(list(nat), list(nat))) $x:nat nil:list(nat))", "(cons $x nil:list(nat))", api.OK}, {nil, "(mk:fun(nat, fun(bool, pair(nat, bool))) $x:nat $y:bool)", "(mk $x:nat $y:bool)", api.OK}, {[]Known{{"k", of("'a")}}, "(\\x:'a . #0)", "(\\x:'a . #0)", api.OK}, {[]Known{{"k", of("'a")}}, "(\\x:'b . #0)", "(\\x . #0)", api.OK}, {nil, "least:'a{c}", "least", api.OK}, {nil, "least:'a{c,d}", "least:'a{c,d}", api.OK}, {nil, "?x.1:?a.0", "?x.1:?a.0", api.OK},
		{nil, "$x", "", api.ErrForm}, {nil, "(zero:nat zero:nat)", "", api.ErrType}, {nil, "none:nat", "", api.ErrMissing}, {[]Known{{"k", of("'a{c}")}}, "$x:'a", "", api.ErrSort}, {[]Known{{"k", of("set")}}, "$x:'a", "", api.ErrMissing}, {make([]Known, 61), "$x:'a", "", api.ErrCount}, {nil, "[$x:'a :'a]", "", api.ErrForm},
	} {
		out, e := Pinned(little(), c.known, raw(c.t))
		s := ""
		if out.Op != 0 {
			s = show(out)
		}
		if s != c.out || e != c.e {
			t.Error(i, s, e)
		}
	}
	thy := little()
	thy.Axioms = nil
	if _, e := Pinned(thy, nil, raw("$x")); e != api.ErrForm {
		t.Error(e)
	}
	if _, e := Pinned(thy, nil, raw("$x:nat")); e != api.ErrTheory {
		t.Error(e)
	}
	thy.Types[0].Name = "1"
	if _, e := Pinned(thy, nil, raw("$x")); e != sort.ErrName {
		t.Error(e)
	}
	// a variable would stand for too large a type
	big := of("nat")
	for range 10 {
		big = api.Type{Op: api.TCon, Name: "pair", Args: []api.Type{big, big}}
	}
	f := api.Term{Op: api.Free, Name: "f", Type: types.Fun(of("nat"), big)}
	if _, e := Pinned(little(), nil, term.Apps(f, []api.Term{raw("zero:nat")})); e != api.ErrLarge {
		t.Error(e)
	}
}

func TestP171Random(t *testing.T) {
	codes := map[api.Errno]int{}
	thy := little()
	for seed := range 12000 {
		g := newGen(seed)
		var l []api.Term
		var want []api.Type
		for range g.Intn(3) + 1 {
			l = append(l, g.raw(0, 5))
			want = append(want, api.Type{})
			if g.Intn(4) == 0 {
				want[len(want)-1] = g.typ(2)
			}
		}
		known := g.known()
		out, e := Terms(thy, known, l, want)
		naive, e2 := naiveTerms(thy, known, l, want)
		if e != e2 || !slices.EqualFunc(out, naive, func(a, b api.Term) bool { return show(a) == show(b) }) {
			t.Fatal(seed, known, show(l[0]), e, e2)
		}
		codes[e]++
	}
	if codes[api.OK] < 1000 || codes[api.ErrType] < 1000 || codes[api.ErrSort] < 300 || codes[ErrUnknown] < 100 {
		t.Error(codes)
	}
}

// holds reports whether the types of a term are what the constraints and given types of a raw term say.
func holds(r, t api.Term, around []api.Type) bool {
	if r.Op == Constraint {
		k, e := typeWithin(t, around)
		return e == api.OK && types.Equal(k, r.Type) && holds(r.Kids[0], t, around)
	}
	if !isOpen(r.Type) && !types.Equal(r.Type, t.Type) {
		return false
	}
	if r.Op == api.Abs {
		around = append([]api.Type{t.Type}, around...)
	}
	for i := range r.Kids {
		if !holds(r.Kids[i], t.Kids[i], around) {
			return false
		}
	}
	return true
}

// typeWithin returns the type of a term within abstractions.
func typeWithin(t api.Term, around []api.Type) (api.Type, api.Errno) {
	for i := len(around) - 1; i >= 0; i-- {
		t = term.Put(t, api.Term{Op: api.Free, Name: "zz" + digits(i), Type: around[0]})
		around = around[1:]
	}
	return term.TypeOf(t)
}

func TestP172Right(t *testing.T) {
	thy := little()
	right := 0
	for seed := range 6000 {
		g := newGen(seed)
		r, want := g.raw(0, 5), g.typ(1)
		if g.Intn(2) == 0 {
			want = api.Type{}
		}
		known := g.known()
		out, e := Term(thy, known, r, want)
		if e != api.OK {
			continue
		}
		right++
		k, e := term.Check(thy, out)
		if e != api.OK || !term.Equal(Erase(out), Erase(r)) || !isOpen(want) && !types.Equal(k, want) || !holds(r, out, nil) {
			t.Fatal(seed, show(r), show(out), e)
		}
	}
	if right < 1000 {
		t.Error(right)
	}
}

// instanceOf reports whether the types of a term are instances of those of another one, whose TFrees stand for types.
func instanceOf(thy api.Theory, a, b api.Term) bool {
	var l []api.TypeBind
	var schematic func(t api.Type) api.Type
	schematic = func(t api.Type) api.Type {
		if t.Op == api.TFree {
			return api.Type{Op: api.TVar, Name: t.Name, Index: 999, Sort: t.Sort}
		}
		args := slices.Clone(t.Args)
		for i := range args {
			args[i] = schematic(args[i])
		}
		t.Args = args
		return t
	}
	var walk func(a, b api.Term) bool
	walk = func(a, b api.Term) bool {
		if !isOpen(b.Type) {
			m, e := types.Match(thy, schematic(b.Type), a.Type, l)
			if e != api.OK {
				return false
			}
			l = m
		}
		for i := range a.Kids {
			if !walk(a.Kids[i], b.Kids[i]) {
				return false
			}
		}
		return true
	}
	return walk(a, b)
}

func TestP173MostGeneral(t *testing.T) {
	thy := little()
	right, general := 0, 0
	for seed := range 6000 {
		g := newGen(seed)
		g.thy = thy
		x := g.right(g.typ(2), nil, 5)
		if _, e := term.Check(thy, x); e != api.OK {
			continue
		}
		right++
		out, e := Term(thy, nil, Erase(x), api.Type{})
		if e != api.OK || !instanceOf(thy, x, out) {
			t.Fatal(seed, show(x), show(out), e)
		}
		if !term.Equal(out, x) {
			general++
		}
	}
	if right < 1000 || general < 300 {
		t.Error(right, general)
	}
}

// A variable would need more classes than a sort may have.
func TestP173ManyClasses(t *testing.T) {
	var more api.Theory
	var a, b []string
	for i := range 21 {
		name := fmt.Sprintf("k%02d", i)
		more.Classes = append(more.Classes, api.Class{Name: name})
		if i < 11 {
			a = append(a, name)
		} else {
			b = append(b, name)
		}
	}
	typ := func(s []string) api.Type {
		return types.Fun(api.Type{Op: api.TVar, Name: "a", Sort: s}, types.Prop())
	}
	more.Consts = []api.ConstDecl{{Name: "ka", Type: typ(a)}, {Name: "kb", Type: typ(b)}, {Name: "kc", Type: typ(b[1:])}}
	thy, e := theory.Extend(little(), "U", more)
	if e != api.OK {
		t.Fatal(e)
	}
	if _, e := Term(thy, nil, raw("(mk (ka $x) (kb $x))"), api.Type{}); e != api.ErrSort {
		t.Error(e)
	}
	if _, e := Term(thy, nil, raw("(mk (ka $x) (kc $x))"), api.Type{}); e != api.OK {
		t.Error(e)
	}
}

func TestP174Again(t *testing.T) {
	thy := little()
	right, fewer := 0, 0
	for seed := range 2000 {
		g := newGen(seed)
		g.thy = thy
		known := g.known()
		x, e := Term(thy, known, g.raw(0, 4), api.Type{})
		if e != api.OK {
			x = g.right(g.typ(2), nil, 4)
		}
		again, e := Term(thy, known, x, api.Type{})
		p, e2 := Pinned(thy, known, x)
		q, e3 := naivePinned(thy, known, x)
		if e2 != e3 || e2 == api.OK && show(p) != show(q) {
			t.Fatal(seed, show(x), e2, e3)
		}
		if e2 != api.OK {
			continue
		}
		back, e4 := Term(thy, known, p, api.Type{})
		if e != api.OK || e4 != api.OK || !term.Equal(again, x) || !term.Equal(back, x) {
			t.Fatal(seed, show(x), show(p), e, e4)
		}
		right++
		if slices.ContainsFunc(slices.Collect(term.Nodes(p)), func(n api.Term) bool { return !isOpen(n.Type) }) {
			fewer++
		}
	}
	if right < 700 || fewer < 150 {
		t.Error(right, fewer)
	}
}
