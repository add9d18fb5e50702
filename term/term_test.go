package term

import (
	"fmt"
	"math"
	"strings"
	"testing"

	"triforium/api"
	"triforium/sort"
	"triforium/types"
)

// small has the classes c and d, the constructors fun, prop, nat (of c) and list, and some constants.
func small() api.Theory {
	return api.Theory{
		Name:    "T",
		Classes: []api.Class{{Name: "c"}, {Name: "d"}},
		Types:   []api.TypeDecl{{Name: "fun", Arity: 2}, {Name: "prop"}, {Name: "nat"}, {Name: "list", Arity: 1}},
		Arities: []api.Arity{{Type: "nat", Class: "c"}},
		Consts: []api.ConstDecl{
			{Name: "imp", Type: typ("fun(prop, fun(prop, prop))")}, {Name: "all", Type: typ("fun(fun(?a.0, prop), prop)")}, {Name: "eq", Type: typ("fun(?a.0, fun(?a.0, prop))")},
			{Name: "s", Type: typ("fun(nat, nat)")}, {Name: "z", Type: typ("nat")}, {Name: "cons", Type: typ("fun(?a.0, fun(list(?a.0), list(?a.0)))")}, {Name: "le", Type: typ("fun(?k.0{c}, fun(?k.0{c}, prop))")},
		},
	}
}

func typ(s string) api.Type {
	r := types.Reader{Rest: s}
	t, ok := r.Type()
	if !ok || r.Rest != "" {
		panic("no type: " + s)
	}
	return t
}

// of reads a term of whatever form: N stands for nat.
func of(s string) api.Term {
	s = strings.ReplaceAll(s, "N", "nat")
	r := reader{types.Reader{Rest: s}}
	t, ok := r.term(1)
	if !ok || r.Rest != "" {
		panic("no term: " + s)
	}
	return t
}

// text writes any term, with its kinds and numbers.
func text(t api.Term) string {
	typeText := ""
	if t.Type.Op != 0 {
		typeText, _ = types.Text(t.Type)
	}
	s := fmt.Sprintf("%d/%s/%d/%s", t.Op, t.Name, t.Num, typeText)
	for _, k := range t.Kids {
		s += "(" + text(k) + ")"
	}
	return s
}

func app(l ...api.Term) api.Term { return api.Term{Op: api.App, Kids: l} }

func bound(n int) api.Term { return api.Term{Op: api.Bound, Num: n} }

func abs(body api.Term) api.Term {
	return api.Term{Op: api.Abs, Name: "x", Type: typ("nat"), Kids: []api.Term{body}}
}

func nat(op int, name string) api.Term { return api.Term{Op: op, Name: name, Type: typ("nat")} }

// tree returns applications with n nodes (n odd) that are not deep.
func tree(n int, leaf api.Term) api.Term {
	if n < 3 {
		return leaf
	}
	half := (n - 1) / 2
	half -= 1 - half%2
	return app(tree(half, leaf), tree(n-1-half, leaf))
}

// chain returns applications within each other, of a depth.
func chain(depth int, leaf api.Term) api.Term {
	f := of("s:fun(N, N)")
	for range depth - 1 {
		leaf = app(f, leaf)
	}
	return leaf
}

func TestP31Size(t *testing.T) {
	for _, x := range []struct {
		t    api.Term
		n, d int
	}{{api.Term{}, 1, 1}, {of("(s:fun(N, N) $x:N)"), 3, 2}, {of("(\\x:fun(N, N) . (#0 $x:N))"), 4, 3}, {tree(101, bound(0)), 101, 7}, {api.Term{Op: api.Const, Kids: []api.Term{bound(0), chain(7, bound(0))}}, 15, 8}} {
		if n, d := Size(x.t); n != x.n || d != x.d {
			t.Error(text(x.t), n, d)
		}
	}
}

// formErrors are terms with the errors of their form.
func formErrors() []struct {
	t api.Term
	e api.Errno
} {
	n, x := typ("nat"), nat(api.Free, "x")
	kids := []api.Term{x}
	return []struct {
		t api.Term
		e api.Errno
	}{
		{x, api.OK}, {of("(\\:N . #0)"), api.OK}, {of("(\\x:N . (\\y:N . #1))"), api.OK}, {of("?x.1000000:N"), api.OK}, {api.Term{Op: api.Free, Name: "x", Type: n, Kids: []api.Term{}}, api.OK},
		{api.Term{}, api.ErrForm}, {api.Term{Op: 7, Name: "x", Type: n}, api.ErrForm}, {api.Term{Op: -1}, api.ErrForm},
		{api.Term{Op: api.Const, Name: "z", Num: 1, Type: n}, api.ErrForm}, {api.Term{Op: api.Free, Name: "x", Num: 1, Type: n}, api.ErrForm}, {api.Term{Op: api.Const, Name: "z", Type: n, Kids: kids}, api.ErrForm}, {api.Term{Op: api.Var, Name: "z", Num: -1, Type: n, Kids: kids}, api.ErrForm},
		{api.Term{Op: api.Bound, Num: 1, Kids: kids}, api.ErrForm}, {api.Term{Op: api.Bound, Num: 1, Name: "x"}, api.ErrForm}, {api.Term{Op: api.Bound, Num: 1, Type: n}, api.ErrForm}, {api.Term{Op: api.Bound, Num: 1, Type: api.Type{Index: 1}}, api.ErrForm},
		{api.Term{Op: api.Abs, Num: 1, Type: n, Kids: kids}, api.ErrForm}, {api.Term{Op: api.Abs, Name: "1", Type: n, Kids: kids}, api.ErrForm}, {api.Term{Op: api.Abs, Type: n}, api.ErrForm}, {api.Term{Op: api.Abs, Type: typ("?a.1000001"), Kids: []api.Term{x, x}}, api.ErrForm},
		{api.Term{Op: api.App, Name: "x", Kids: []api.Term{x, x}}, api.ErrForm}, {api.Term{Op: api.App, Num: 1, Kids: []api.Term{x, x}}, api.ErrForm}, {api.Term{Op: api.App, Type: n, Kids: []api.Term{x, x}}, api.ErrForm},
		{app(), api.ErrForm}, {app(x), api.ErrForm}, {app(x, x, x), api.ErrForm}, {app(bound(0)), api.ErrForm},
		{nat(api.Free, ""), api.ErrForm}, {nat(api.Const, "1"), api.ErrForm}, {nat(api.Var, "\xff"), api.ErrForm}, {nat(api.Free, strings.Repeat("a", 41)), api.ErrForm},
		{of("?x.1000001:N"), api.ErrRange}, {api.Term{Op: api.Var, Name: "x", Num: -1, Type: n}, api.ErrRange}, {of("?1.1000001:N"), api.ErrForm}, {of("?x.1000001:1"), api.ErrRange}, {api.Term{Op: api.Var, Name: "x", Num: math.MinInt, Type: n}, api.ErrRange},
		{bound(0), ErrLoose}, {abs(bound(1)), ErrLoose}, {abs(bound(-1)), ErrLoose}, {abs(abs(bound(math.MaxInt))), ErrLoose}, {app(abs(bound(0)), bound(0)), ErrLoose},
		{nat(api.Free, "x"), api.OK}, {of("$x:1"), api.ErrForm}, {of("$x:?a.1000001"), api.ErrRange}, {api.Term{Op: api.Free, Name: "x"}, api.ErrForm}, {api.Term{Op: api.Const, Name: "x", Type: api.Type{Op: api.TFree, Name: "a", Sort: []string{"d", "c"}}}, api.ErrForm},
		{of("($x:?a.1000001 #0)"), api.ErrRange}, {of("(#0 $x:?a.1000001)"), ErrLoose}, {of("(\\1:N . #1)"), api.ErrForm}, {of("(\\x:?a.1000001 . #1)"), api.ErrRange},
		{tree(19999, x), api.OK}, {tree(20001, x), api.ErrCount}, {abs(tree(19999, x)), api.OK}, {abs(abs(tree(19999, x))), api.ErrCount},
		{chain(500, x), api.OK}, {chain(501, x), api.ErrDepth}, {chain(501, bound(0)), api.ErrDepth}, {chain(10001, x), api.ErrCount}, {chain(10000, x), api.ErrDepth}, {chain(1<<16, x), api.ErrCount},
	}
}

func TestP31Form(t *testing.T) {
	for i, x := range formErrors() {
		if _, e := TypeOf(x.t); e != x.e && (x.e != api.OK || e != api.ErrType) {
			t.Error("TypeOf", i, e, x.e)
		}
		if s, e := Text(x.t); e != x.e && (x.e != api.OK || e != api.ErrLarge) || e != api.OK && s != "" {
			t.Error("Text", i, e, x.e)
		}
		if _, e := Check(small(), x.t); e != x.e && x.e != api.OK {
			t.Error("Check", i, e, x.e)
		}
		if _, e := Eq(nat(api.Free, "x"), x.t); e != x.e && x.e != api.OK {
			t.Error("Eq", i, e, x.e)
		}
	}
}

func TestP31Check(t *testing.T) {
	for _, x := range []struct {
		t, want string
		e       api.Errno
	}{
		{"(\\x:N . (s:fun(N, N) #0))", "fun(nat, nat)", api.OK}, {"$f:fun('a, prop)", "fun('a, prop)", api.OK}, {"((cons:fun(N, fun(list(N), list(N))) z:N) ?l.3:list(N))", "list(nat)", api.OK},
		{"(\\x:'a . (\\y:?b.3{c} . #1))", "fun('a, fun(?b.3{c}, 'a))", api.OK}, {"le:fun(N, fun(N, prop))", "fun(nat, fun(nat, prop))", api.OK}, {"le:fun(?j.7{c}, fun(?j.7{c}, prop))", "fun(?j.7{c}, fun(?j.7{c}, prop))", api.OK},
		{"le:fun(list(N), fun(list(N), prop))", "", api.ErrType}, {"le:fun('a, fun('a, prop))", "", api.ErrType}, {"le:fun(N, fun('a{c}, prop))", "", api.ErrType}, {"s:fun(N, prop)", "", api.ErrType}, {"z:prop", "", api.ErrType},
		{"q:N", "", api.ErrMissing}, {"q:set", "", api.ErrMissing}, {"q:list", "", api.ErrCount}, {"$x:'a{x}", "", api.ErrMissing}, {"(z:prop q:N)", "", api.ErrType}, {"(q:N z:prop)", "", api.ErrMissing}, {"(\\x:list . q:N)", "", api.ErrCount},
		{"($x:fun('a, 'a{c}) q:N)", "", api.ErrSort}, {"($x:'a (q:N $y:'a{c}))", "", api.ErrMissing}, {"($x:'a $y:'a{c})", "", api.ErrSort}, {"(\\x:?a.0 . $y:?a.0{c})", "", api.ErrSort}, {"(\\x:?a.0 . $y:?a.1{c})", "fun(?a.0, ?a.1{c})", api.OK},
		{"($x:N ($x:prop $y:'a))", "", api.ErrType}, {"($x:'a ($x:prop $y:'a{c}))", "", api.ErrSort}, {"(?x.0:fun(N, N) $x:N)", "nat", api.OK}, {"(?x.0:fun(N, N) ?x.1:N)", "nat", api.OK}, {"(?x.0:fun(N, N) ?x.0:N)", "", api.ErrType},
		{"($f:fun(N, N) $x:prop)", "", api.ErrType}, {"($f:N $x:N)", "", api.ErrType}, {"($f:list(N) $x:N)", "", api.ErrType}, {"($f:fun(N, fun(N, N)) $x:N)", "fun(nat, nat)", api.OK}, {"((\\x:N . $x:prop) $y:prop)", "", api.ErrType},
		{"((\\x:fun(N, prop) . (#0 z:N)) $p:fun(N, prop))", "prop", api.OK},
		// right but for two types of a variable
		{"(($f:fun(N, fun(prop, N)) $x:N) $x:prop)", "", api.ErrType}, {"(($f:fun(N, fun(prop, N)) ?x.3:N) ?x.3:prop)", "", api.ErrType}, {"(($f:fun(N, fun(prop, N)) ?x.3:N) $x:prop)", "nat", api.OK}, {"(($f:fun(N, fun(prop, N)) $x:N) $y:prop)", "nat", api.OK},
		{"(($f:fun(fun(N, fun(list(N), list(N))), fun(fun(prop, fun(list(prop), list(prop))), N)) cons:fun(N, fun(list(N), list(N)))) cons:fun(prop, fun(list(prop), list(prop))))", "nat", api.OK},
	} {
		k, e := Check(small(), of(x.t))
		if s, _ := types.Text(k); e != x.e || s != x.want {
			t.Error(x.t, s, e)
		}
	}
	// the form of the whole comes ahead of the theory
	if _, e := Check(small(), of("(q:set #0)")); e != ErrLoose {
		t.Error(e)
	}
}

func TestP31CheckConstants(t *testing.T) {
	many := func(n int) []api.ConstDecl {
		var l []api.ConstDecl
		for i := range n {
			l = append(l, api.ConstDecl{Name: fmt.Sprint("k", i), Type: typ("nat")})
		}
		return l
	}
	decl := func(name, k string) api.ConstDecl { return api.ConstDecl{Name: name, Type: typ(k)} }
	for i, x := range []struct {
		l []api.ConstDecl
		e api.Errno
	}{
		{many(300), api.OK}, {many(301), api.ErrCount}, {append([]api.ConstDecl{{}}, many(300)...), api.ErrCount},
		{[]api.ConstDecl{decl("1", "set")}, api.ErrForm}, {[]api.ConstDecl{decl("a", "nat"), decl("a", "set")}, api.ErrDuplicate}, {[]api.ConstDecl{decl("a", "set"), decl("1", "nat")}, api.ErrMissing},
		{[]api.ConstDecl{decl("a", "list")}, api.ErrCount}, {[]api.ConstDecl{decl("a", "fun(?a.0, ?a.0{c})")}, api.ErrSort}, {[]api.ConstDecl{decl("a", "?a.1000001")}, api.ErrRange},
		{[]api.ConstDecl{decl("a", "'a")}, api.ErrForm}, {[]api.ConstDecl{decl("a", "?a.1")}, api.ErrForm}, {[]api.ConstDecl{decl("a", "fun(?a.0, ?b.0{c,d})")}, api.OK}, {[]api.ConstDecl{decl("a", "fun('a, set)")}, api.ErrMissing},
	} {
		thy := small()
		thy.Consts = x.l
		want := x.e
		if want == api.OK {
			want = ErrLoose // of the term
		}
		if _, e := Check(thy, bound(0)); e != want {
			t.Error(i, e, want)
		}
	}
	thy := small()
	thy.Consts[0].Name = ""
	thy.Types[0].Name = ""
	if _, e := Check(thy, api.Term{}); e != sort.ErrName {
		t.Error("sort.Check comes first", e)
	}
}

func TestP31TypeOf(t *testing.T) {
	for _, x := range []struct {
		t, want string
		e       api.Errno
	}{
		{"(\\x:N . (s:fun(N, N) #0))", "fun(nat, nat)", api.OK}, {"((\\x:set . #0) q:set)", "set", api.OK}, {"(\\x:a . (\\y:b . (\\z:c . #1)))", "fun(a, fun(b, fun(c, b)))", api.OK},
		{"($x:fun('a, 'a{c}) $x:'a)", "'a{c}", api.OK}, // by the Types in it alone
		{"($f:fun(N, N) $x:prop)", "", api.ErrType}, {"($f:N $x:N)", "", api.ErrType}, {"($f:fun(N) $x:N)", "", api.ErrType}, {"($f:fun(N, N, N) $x:N)", "", api.ErrType}, {"(\\x:N . (#0 #0))", "", api.ErrType}, {"($f:fun(N, N) ($f:N $x:N))", "", api.ErrType}, {"(($f:N $x:N) #0)", "", ErrLoose},
	} {
		k, e := TypeOf(of(x.t))
		if s, _ := types.Text(k); e != x.e || s != x.want {
			t.Error(x.t, s, e)
		}
	}
	// a type that is larger than types may be
	x := nat(api.Free, "x")
	for range 499 {
		x = abs(x)
	}
	if k, e := TypeOf(x); e != api.OK {
		t.Error(e)
	} else if n, d := types.Size(k); n != 999 || d != 500 {
		t.Error(n, d)
	}
}

func TestP31Order(t *testing.T) {
	x := nat(api.Free, "x")
	l := []api.Term{
		{}, nat(api.Const, "a"), {Op: api.Const, Name: "a", Type: typ("nat"), Kids: []api.Term{x}}, {Op: api.Const, Name: "a", Type: typ("prop")}, nat(api.Const, "b"), nat(api.Free, "a"), nat(api.Free, "b"),
		{Op: api.Var, Name: "a", Num: -1, Type: typ("prop")}, of("?a.0:N"), of("?a.0:prop"), of("?a.1:N"), of("?b.0:N"), bound(-1), bound(0), bound(7),
		abs(bound(0)), abs(bound(1)), {Op: api.Abs, Type: typ("nat"), Kids: []api.Term{bound(1), bound(0)}}, {Op: api.Abs, Type: typ("prop"), Kids: []api.Term{bound(0)}},
		app(), app(x), app(x, bound(0)), app(x, bound(0), x), app(x, bound(1)), app(bound(0), x), {Op: 7}, {Op: 7, Name: "a"},
	}
	for i, a := range l {
		for k, b := range l {
			want := 0
			if i < k {
				want = -1
			} else if i > k {
				want = 1
			}
			if c := Compare(a, b); c != want || Equal(a, b) != (i == k) {
				t.Error(i, k, c)
			}
		}
	}
	a, b := abs(bound(0)), abs(bound(0))
	b.Name, b.Type.Args = "other", []api.Type{}
	if !Equal(a, b) || Compare(a, b) != 0 {
		t.Error("names of abstractions")
	}
}

func TestP31Apply(t *testing.T) {
	i := api.Inst{
		Types: []api.TypeBind{{Name: "a", To: typ("nat")}, {Name: "a", To: typ("prop")}},
		Terms: []api.TermBind{{Name: "x", To: of("(#0 (\\y:?a.0 . (#0 #1)))")}, {Name: "x", To: of("z:N")}, {Name: "y", Index: 2, To: of("?x.0:?a.0")}},
	}
	x := of("(\\u:?a.0 . ((?x.0:?a.0 ?x.1:?a.0) (\\v:list(?a.0) . (?x.0:prop (?y.2:N #2)))))")
	want := of("(\\u:N . (((#1 (\\y:?a.0 . (#0 #2))) ?x.1:N) (\\v:list(N) . ((#2 (\\y:?a.0 . (#0 #3))) (?x.0:?a.0 #2)))))")
	if got := Apply(i, x); text(got) != text(want) {
		t.Error(text(got))
	}
	// Kids of all nodes, also of those that have none by their kind; a Var that is replaced loses its own
	v := of("?x.0:N")
	v.Kids = []api.Term{v}
	k := of("$k:?a.0")
	k.Kids = []api.Term{of("?y.2:N"), v}
	if got := text(Apply(i, k)); got != "2/k/0/nat("+text(of("?x.0:?a.0"))+")("+text(i.Terms[0].To)+")" {
		t.Error(got)
	}
	if got := Apply(api.Inst{}, x); text(got) != text(x) {
		t.Error(text(got))
	}
}

func TestP31BindPutLift(t *testing.T) {
	x := nat(api.Free, "x")
	for _, c := range []struct{ t, want string }{
		{"$x:N", "#0"}, {"$x:prop", "$x:prop"}, {"$y:N", "$y:N"}, {"#0", "#1"}, {"#3", "#4"}, {"x:N", "x:N"}, {"?x.0:N", "?x.0:N"},
		{"(\\y:N . ($x:N (#0 #1)))", "(\\y:N . (#1 (#0 #2)))"}, {"(\\x:N . (\\x:N . ($x:N #5)))", "(\\x:N . (\\x:N . (#2 #6)))"},
	} {
		if got := Bind(x, of(c.t)); text(got) != text(of(c.want)) {
			t.Error("Bind", c.t, text(got))
		}
	}
	if got := Bind(nat(api.Const, "x"), of("(x:N #0)")); text(got) != text(of("(x:N #1)")) {
		t.Error("only a Free is bound", text(got))
	}
	for _, c := range []struct{ body, a, want string }{
		{"#0", "$x:N", "$x:N"}, {"#1", "$x:N", "#0"}, {"#5", "$x:N", "#4"}, {"$y:N", "$x:N", "$y:N"}, {"#0", "#3", "#3"},
		{"(\\y:N . (#0 (#1 #2)))", "(#0 #4)", "(\\y:N . (#0 ((#1 #5) #1)))"}, {"(\\y:N . (\\z:N . (#2 #3)))", "(\\u:N . (#0 #1))", "(\\y:N . (\\z:N . ((\\u:N . (#0 #3)) #2)))"},
	} {
		if got := Put(of(c.body), of(c.a)); text(got) != text(of(c.want)) {
			t.Error("Put", c.body, text(got))
		}
	}
	for _, c := range []struct {
		t    string
		n    int
		want string
	}{{"#0", 2, "#2"}, {"(\\y:N . (#0 #1))", 2, "(\\y:N . (#0 #3))"}, {"(\\y:N . (#0 #3))", -2, "(\\y:N . (#0 #1))"}, {"(\\y:N . #0)", 7, "(\\y:N . #0)"}, {"#4", 0, "#4"}} {
		if got := Lift(of(c.t), c.n); text(got) != text(of(c.want)) {
			t.Error("Lift", c.t, text(got))
		}
	}
	for s, want := range map[string]bool{"#0": false, "$x:N": true, "(\\x:N . #0)": true, "(\\x:N . #1)": false, "((\\x:N . #0) #0)": false, "(\\x:N . (\\y:N . #1))": true} {
		if Closed(of(s)) != want {
			t.Error("Closed", s)
		}
	}
	// numbers that there are not, Kids of a Bound
	odd := api.Term{Op: api.Bound, Num: -5, Kids: []api.Term{bound(0), bound(1)}}
	if Closed(odd) || text(Lift(odd, 3)) != text(api.Term{Op: api.Bound, Num: -5, Kids: []api.Term{bound(3), bound(4)}}) || text(Put(odd, x)) != text(api.Term{Op: api.Bound, Num: -5, Kids: []api.Term{x, bound(0)}}) {
		t.Error("Kids of a Bound")
	}
	Lift(bound(math.MaxInt), math.MaxInt)
	Put(bound(math.MinInt), x)
	Bind(api.Term{}, bound(math.MaxInt))
}

func TestP31Beta(t *testing.T) {
	if b, ok := Beta(of("((\\x:N . (#0 (\\y:N . (#1 #2)))) $a:N)")); !ok || text(b) != text(of("($a:N (\\y:N . ($a:N #1)))")) {
		t.Error(text(b), ok)
	}
	for i, x := range []api.Term{{}, of("$x:N"), of("($f:fun(N, N) $x:N)"), of("(\\x:N . ((\\y:N . #0) #0))"), app(abs(bound(0))), app(abs(bound(0)), bound(0), bound(0)), app(api.Term{Op: api.Abs}, bound(0)), app(api.Term{Op: api.Abs, Kids: []api.Term{bound(0), bound(0)}}, bound(0))} {
		if b, ok := Beta(x); ok || text(b) != text(api.Term{}) {
			t.Error(i, text(b))
		}
	}
}

func TestP31Norm(t *testing.T) {
	omega := of("((\\x:N . (#0 #0)) (\\x:N . (#0 #0)))")
	grow := of("((\\x:N . ((#0 #0) #0)) (\\x:N . ((#0 #0) #0)))")
	k := of("(\\x:N . (\\y:N . #1))")
	for i, x := range []struct {
		t    api.Term
		fuel int
		want api.Term
		e    api.Errno
	}{
		{of("$x:N"), 0, of("$x:N"), api.OK}, {of("$x:N"), math.MinInt, of("$x:N"), api.OK}, {of("((\\x:N . #0) $a:N)"), 1, of("$a:N"), api.OK}, {of("((\\x:N . #0) $a:N)"), 0, api.Term{}, api.ErrFuel}, {of("((\\x:N . #0) $a:N)"), -3, api.Term{}, api.ErrFuel},
		{omega, 1000, api.Term{}, api.ErrFuel}, {app(app(k, nat(api.Free, "a")), omega), 2, nat(api.Free, "a"), api.OK}, {app(app(k, nat(api.Free, "a")), omega), 1, api.Term{}, api.ErrFuel}, // the leftmost outermost one
		{grow, math.MaxInt, api.Term{}, api.ErrDepth}, // each step is one deeper
		{app(abs(tree(1999, bound(0))), tree(1999, nat(api.Free, "a"))), 5, api.Term{}, api.ErrCount}, {app(abs(tree(19, bound(0))), tree(19, nat(api.Free, "a"))), 0, api.Term{}, api.ErrFuel},
		{tree(20001, bound(0)), 5, api.Term{}, api.ErrCount}, {chain(501, bound(0)), 5, api.Term{}, api.ErrDepth}, {chain(20000, bound(0)), 5, api.Term{}, api.ErrCount},
		{app(abs(chain(250, bound(0))), chain(251, bound(7))), 1, chain(500, bound(7)), api.OK}, {app(abs(chain(250, bound(0))), chain(252, bound(7))), 1, api.Term{}, api.ErrDepth},
		{app(bound(3), app(abs(chain(250, bound(0))), chain(250, bound(7)))), 1, app(bound(3), chain(499, bound(7))), api.OK}, {app(bound(3), app(abs(chain(250, bound(0))), chain(252, bound(7)))), 1, api.Term{}, api.ErrDepth},
		{app(app(abs(chain(250, bound(0))), chain(251, bound(7))), bound(3)), 1, api.Term{}, api.ErrDepth},
		{abs(abs(app(abs(chain(250, bound(0))), chain(249, bound(7))))), 1, abs(abs(chain(498, bound(7)))), api.OK}, {abs(abs(app(abs(chain(250, bound(0))), chain(250, bound(7))))), 1, api.Term{}, api.ErrDepth},
	} {
		got, e := Norm(x.t, x.fuel)
		if e != x.e || text(got) != text(x.want) {
			t.Error(i, e, x.e)
		}
	}
	// what stands under an Abs is counted as well
	leaf := app(nat(api.Free, "f"), abs(bound(1)))
	if got, e := Norm(app(abs(tree(3999, leaf)), tree(3, bound(0))), 1); e != api.OK {
		t.Error(e)
	} else if n, _ := Size(got); n != 1999+2000*6 {
		t.Error(n)
	}
	if _, e := Norm(app(abs(tree(3999, leaf)), tree(7, bound(0))), 1); e != api.ErrCount {
		t.Error(e)
	}
	// exactly as large as permitted, and one beyond
	thrice := abs(app(bound(9), app(abs(app(app(bound(0), bound(0)), bound(0))), tree(6665, bound(5)))))
	got, e := Norm(thrice, 1)
	if n, _ := Size(got); e != api.OK || n != 20000 {
		t.Error(n, e)
	}
	if _, e := Norm(abs(thrice), 1); e != api.ErrCount {
		t.Error(e)
	}
}

func TestP31Eta(t *testing.T) {
	for _, c := range []struct{ t, want string }{
		{"(\\x:N . (f:fun(N, N) #0))", "f:fun(N, N)"}, {"(\\x:N . (\\y:N . ((f:N #1) #0)))", "f:N"}, {"(\\x:N . (#0 #0))", "(\\x:N . (#0 #0))"}, {"(\\x:N . ((f:N #0) #0))", "(\\x:N . ((f:N #0) #0))"},
		{"(\\x:N . (#3 #0))", "#2"}, {"(\\x:N . ((\\y:N . #1) #0))", "(\\x:N . ((\\y:N . #1) #0))"}, {"(\\x:N . ((\\y:N . (#0 #2)) #0))", "(\\y:N . (#0 #1))"}, {"(\\x:N . (f:N (\\y:N . (#1 #0))))", "f:N"},
		{"(\\x:N . (f:N #1))", "(\\x:N . (f:N #1))"}, {"(\\x:N . #0)", "(\\x:N . #0)"}, {"((\\x:N . (f:N #0)) (\\x:N . (\\y:N . (#1 #0))))", "(f:N (\\x:N . #0))"},
	} {
		if got := Eta(of(c.t)); text(got) != text(of(c.want)) {
			t.Error(c.t, text(got))
		}
	}
	for i, x := range []api.Term{{}, abs(app(bound(3))), abs(app(bound(3), bound(0), bound(0))), {Op: api.Abs, Kids: []api.Term{app(bound(3), bound(0)), bound(0)}}, app(), {Op: api.Abs}} {
		if text(Eta(x)) != text(x) {
			t.Error(i)
		}
	}
}

func TestP31Variables(t *testing.T) {
	x := of("(\\x:?a.0 . (($y:'b{c} ?v.2:?a.0) (($y:prop $y:'b{c}) ((?v.1:?a.7{c} ?v.2:?a.0) $x:?a.0{d}))))")
	x.Kids[0].Kids[0].Kids[0].Kids = []api.Term{of("$k:N")}
	join := func(l []api.Term) string {
		var s []string
		for _, t := range l {
			s = append(s, text(t))
		}
		return strings.Join(s, " ")
	}
	if s := join(Frees(x)); s != "2/y/0/'b{c} 2/k/0/nat 2/y/0/prop 2/x/0/?a.0{d}" {
		t.Error(s)
	}
	if s := join(Vars(x)); s != "3/v/2/?a.0 3/v/1/?a.7{c}" {
		t.Error(s)
	}
	var l []string
	for _, v := range TypeVariables(x) {
		s, _ := types.Text(v)
		l = append(l, s)
	}
	if s := strings.Join(l, " "); s != "?a.0 'b{c} ?a.7{c} ?a.0{d}" {
		t.Error(s)
	}
	for s, want := range map[string]int{"$x:N": -1, "?x.3:N": 3, "$x:?a.5": 5, "(?x.3:?a.5 ?y.7:N)": 7, "(\\x:list(?a.2) . #9)": 2} {
		if MaxIndex(of(s)) != want {
			t.Error(s)
		}
	}
	if MaxIndex(api.Term{Op: api.Var, Num: -4}) != -4 || MaxIndex(api.Term{}) != -1 || MaxIndex(api.Term{Op: api.App, Type: typ("?a.3")}) != 3 {
		t.Error("any terms")
	}
	if got := Raise(of("(\\x:?a.0 . ((?x.3:N #0) $y:list(?b.2)))"), 4); text(got) != text(of("(\\x:?a.4 . ((?x.7:N #0) $y:list(?b.6)))")) {
		t.Error(text(got))
	}
	Raise(of("?x.3:N"), math.MaxInt)
}

func TestP31Variant(t *testing.T) {
	for _, x := range []struct {
		name  string
		names []string
		want  string
	}{{"a", nil, "a"}, {"a", []string{"b"}, "a"}, {"a", []string{"a"}, "a_1"}, {"a", []string{"a_2", "a", "a_1", "a"}, "a_3"}, {"a", []string{"a", "a_2"}, "a_1"}, {"", []string{""}, "_1"}, {"a_1", []string{"a_1"}, "a_1_1"}, {"a", []string{"a_1"}, "a"}, {strings.Repeat("a", 99), []string{strings.Repeat("a", 99)}, strings.Repeat("a", 99) + "_1"}} {
		if got := Variant(x.name, x.names); got != x.want {
			t.Error(got, x.want)
		}
	}
	var l []string
	for i := range 1000 {
		l = append(l, fmt.Sprint("a_", i))
	}
	if got := Variant("a", append(l, "a")); got != "a_1000" {
		t.Error(got)
	}
}

func TestP35Propositions(t *testing.T) {
	a, b, x := of("$A:prop"), of("(\\x:N . #3)"), of("$x:N")
	p := of("(p:fun(N, prop) $x:N)")
	imp := Imp(a, b)
	if text(imp) != text(of("((imp:fun(prop, fun(prop, prop)) $A:prop) (\\x:N . #3))")) {
		t.Error(text(imp))
	}
	if l, r, ok := IsImp(imp); !ok || !Equal(l, a) || !Equal(r, b) {
		t.Error("IsImp")
	}
	all := All(x, p)
	if text(all) != text(of("(all:fun(fun(N, prop), prop) (\\x:N . (p:fun(N, prop) #0)))")) {
		t.Error(text(all))
	}
	if got, ok := IsAll(all); !ok || text(got) != text(of("(\\x:N . (p:fun(N, prop) #0))")) {
		t.Error("IsAll")
	}
	if got := All(of("c:N"), of("(c:N #0)")); text(got) != text(of("(all:fun(fun(N, prop), prop) (\\c:N . (c:N #1)))")) {
		t.Error("All of what is no Free", text(got))
	}
	eq, e := Eq(x, of("z:N"))
	if e != api.OK || text(eq) != text(of("((eq:fun(N, fun(N, prop)) $x:N) z:N)")) {
		t.Error(text(eq), e)
	}
	if l, r, ok := IsEq(eq); !ok || !Equal(l, x) || !Equal(r, of("z:N")) {
		t.Error("IsEq")
	}
	if q, e := Eq(x, a); e != api.ErrType || q.Op != 0 {
		t.Error(e)
	}
	if _, e := Eq(of("(N:N N:N)"), bound(0)); e != api.ErrType {
		t.Error("the first one first", e)
	}
	protect := Protect(a)
	if got, ok := IsProtect(protect); !ok || !Equal(got, a) || text(protect) != text(of("(protect:fun(prop, prop) $A:prop)")) {
		t.Error("IsProtect")
	}
	l, c := Strip(Imp(a, Imp(imp, Imp(p, all))))
	if len(l) != 3 || !Equal(l[0], a) || !Equal(l[1], imp) || !Equal(l[2], p) || !Equal(c, all) {
		t.Error("Strip")
	}
	if l, c := Strip(a); len(l) != 0 || !Equal(c, a) {
		t.Error("Strip")
	}
}

func TestP35NoPropositions(t *testing.T) {
	for _, x := range []api.Term{{}, of("imp:prop"), of("(imp:prop $x:N)"), of("(((imp:prop $x:N) $y:N) $z:N)"), of("(($imp:prop $x:N) $y:N)"), of("(all:prop $x:N)"), of("($all:prop (\\x:N . #0))"), of("((all:prop (\\x:N . #0)) $x:N)"), app(), app(of("protect:prop"), bound(0), bound(0)), app(app(of("imp:prop"), bound(0)), bound(0), bound(0))} {
		_, _, imp := IsImp(x)
		_, _, eq := IsEq(x)
		_, all := IsAll(x)
		_, protect := IsProtect(x)
		if imp || eq || all || protect {
			t.Error(text(x))
		}
	}
	// of any type, of any arguments
	if a, b, ok := IsImp(of("((imp:N #3) #4)")); !ok || a.Num != 3 || b.Num != 4 {
		t.Error("IsImp")
	}
	if a, b, ok := IsEq(of("((eq:N #3) #4)")); !ok || a.Num != 3 || b.Num != 4 {
		t.Error("IsEq")
	}
	if a, ok := IsProtect(of("(protect:N #3)")); !ok || a.Num != 3 {
		t.Error("IsProtect")
	}
	if a, ok := IsAll(of("(all:N (\\x:N . #3))")); !ok || a.Op != api.Abs {
		t.Error("IsAll")
	}
}

func TestP35Spines(t *testing.T) {
	x := of("((($f:N #1) (#2 #3)) (\\x:N . (#0 #1)))")
	h, l := Spine(x)
	if text(h) != text(of("$f:N")) || len(l) != 3 || l[0].Num != 1 || l[2].Op != api.Abs || !Equal(Apps(h, l), x) {
		t.Error("Spine")
	}
	for _, x := range []api.Term{{}, of("$f:N"), app(), app(bound(0)), app(app(bound(0), bound(1), bound(2)), bound(3))} {
		if h, l := Spine(x); !Equal(Apps(h, l), x) {
			t.Error(text(x))
		}
	}
	if h, l := Spine(app(app(bound(0), bound(1), bound(2)), bound(3))); len(h.Kids) != 3 || len(l) != 1 {
		t.Error("an App of three Kids is a head")
	}
	if !Equal(Apps(bound(0), nil), bound(0)) {
		t.Error("Apps")
	}
}

func TestP36Texts(t *testing.T) {
	for _, s := range []string{"c:prop", "$x:list('a{c,d})", "?x.y.7:?a.3", "(\\x:nat . (\\:prop . (#0 #1)))", "((f:fun(a, b) $x:a) ?y.0:b)", "(\\x:?a.0 . #0)"} {
		x, e := Read(s)
		back, f := Text(x)
		if e != api.OK || f != api.OK || back != s {
			t.Error(s, e, back, f)
		}
	}
	for s, want := range map[string]api.Errno{
		"": api.ErrText, " ": api.ErrText, "c": api.ErrText, "c:": api.ErrText, ":": api.ErrText, "c: nat": api.ErrText, "c:nat ": api.ErrText, " c:nat": api.ErrText, "c :nat": api.ErrText, "$x": api.ErrText, "$x:": api.ErrText, "$": api.ErrText, "c:nat)": api.ErrText, "c:nat c:nat": api.ErrText, "c:list(nat": api.ErrText, "c:list(nat,nat)": api.ErrText,
		"?x:nat": api.ErrText, "?x.:nat": api.ErrText, "?x.01:nat": api.ErrText, "?x.12345678:nat": api.ErrText, "?x.-1:nat": api.ErrText, "?x.1": api.ErrText, "#": api.ErrText, "#00": api.ErrText, "#x": api.ErrText, "#-1": api.ErrText, "#12345678": api.ErrText, "#0 ": api.ErrText,
		"(": api.ErrText, "()": api.ErrText, "(c:nat)": api.ErrText, "(c:nat c:nat": api.ErrText, "(c:nat  c:nat)": api.ErrText, "(c:nat c:nat c:nat)": api.ErrText, "(\\x:nat. #0)": api.ErrText, "(\\x:nat .#0)": api.ErrText, "(\\x:nat . #0": api.ErrText, "(\\x . #0)": api.ErrText, "(\\x: . #0)": api.ErrText, "(\\x:nat . )": api.ErrText, "\\x:nat . #0": api.ErrText, "(\\x:nat . #0 #0)": api.ErrText,
		"\xff:nat": api.ErrText, "c:\xff": api.ErrText, "é:nat": api.ErrText, "$x:nat\x00": api.ErrText, "c:?a": api.ErrText, "c:?a.01": api.ErrText,
		"#0": ErrLoose, "#9999999": ErrLoose, "(\\x:nat . #1)": ErrLoose, "$:nat": api.ErrForm, ":nat": api.ErrForm, "?.0:nat": api.ErrForm, "1:nat": api.ErrForm, "c:1": api.ErrForm, "c:nat{c}": api.ErrForm, "c:list()": api.ErrForm, "c:'a{}": api.ErrForm, "c:{c}": api.ErrForm, "(\\1:nat . #0)": api.ErrForm,
		"?x.1000001:nat": api.ErrRange, "c:?a.1000001": api.ErrRange, "?x.1000001:1": api.ErrRange, "?1.1000001:nat": api.ErrForm, "(c:1 #0)": api.ErrForm, "(#0 c:1)": ErrLoose, "(c:1 c)": api.ErrText,
		strings.Repeat("(c:a ", 499) + "c:a" + strings.Repeat(")", 499): api.OK, strings.Repeat("(c:a ", 500) + "c:a" + strings.Repeat(")", 500): api.ErrText, strings.Repeat("(", 40000): api.ErrText, strings.Repeat("(\\", 20000): api.ErrText,
		strings.Repeat("(\\:a . ", 499) + "#498" + strings.Repeat(")", 499): api.OK, strings.Repeat("(\\:a . ", 500) + "#0" + strings.Repeat(")", 500): api.ErrText,
		"c:" + strings.Repeat("l(", 499) + "a" + strings.Repeat(")", 499): api.OK, "c:" + strings.Repeat("l(", 500) + "a" + strings.Repeat(")", 500): api.ErrText,
		strings.Repeat("a", 39998) + ":a": api.ErrForm, strings.Repeat("a", 39999) + ":a": api.ErrLarge, strings.Repeat(" ", 40001): api.ErrLarge,
	} {
		x, e := Read(s)
		if e != want || e != api.OK && x.Op != 0 {
			t.Errorf("%.30q: %d, not %d", s, e, want)
		}
	}
}

func TestP36LongTexts(t *testing.T) {
	leaf := of("c:" + strings.Repeat("a", 35)) // 37 bytes, and 3 for each App: 40 n - 3
	if s, e := Text(tree(1999, leaf)); e != api.OK || len(s) != 39997 {
		t.Error(len(s), e)
	}
	longer := app(tree(1997, leaf), of("c:"+strings.Repeat("a", 38)))
	if s, e := Text(longer); e != api.OK || len(s) != 40000 {
		t.Error(len(s), e)
	}
	longest := app(tree(1997, leaf), of("c:"+strings.Repeat("a", 39)))
	if s, e := Text(longest); e != api.ErrLarge || s != "" {
		t.Error(len(s), e)
	}
	many := api.Term{Op: api.Free, Name: "x", Type: typ("p(" + strings.Repeat("a, ", 13333) + "a)")}
	if s, e := Text(many); e != api.ErrLarge || s != "" {
		t.Error(len(s), e)
	}
}

func TestP31NewMemory(t *testing.T) {
	const whole = "(\\x:fun('a{c}, nat) . ((#0 $y:'a{c}) ?v.0:?b.0{d}))"
	x := of(whole)
	to := of("$k:'j{c}")
	i := api.Inst{Types: []api.TypeBind{{Name: "b", To: typ("'k{d}")}}, Terms: []api.TermBind{{Name: "v", To: to}}}
	n, _ := Norm(x, 9)
	m, _ := Norm(app(abs(app(bound(0), bound(0))), x), 9)
	imp, all, spine := Imp(x, x), All(of("$y:'a{c}"), x), app(app(x, x), x)
	left, right, _ := IsImp(imp)
	body, _ := IsAll(all)
	_, args := Spine(spine)
	premises, end := Strip(Imp(x, Imp(x, x)))
	made := append([]api.Term{Copy(x), Apply(i, x), Apply(i, app(x, x)), Bind(of("$y:'a{c}"), x), Put(app(bound(0), bound(0)), x), Lift(x, 0), Lift(x, 3), n, m, Eta(x), Raise(x, 0), imp, all, left, right, body, end, Apps(x, []api.Term{x, x}), Protect(x)}, append(args, premises...)...)
	made = append(append(made, Frees(x)...), Vars(x)...)
	before := make([]string, len(made))
	for k := range made {
		before[k] = text(made[k])
	}
	for k := range made {
		if text(made[k]) != before[k] {
			t.Error("shared by two results", k)
		}
		parts := 0
		for node := range Nodes(made[k]) {
			parts += len(node.Kids)
		}
		if spoil(made[k]) != parts {
			t.Error("shared in one result", k)
		}
	}
	if text(x) != text(of(whole)) || text(to) != text(of("$k:'j{c}")) {
		t.Error("an argument was changed")
	}
}

// What is taken apart shares nothing with its parts, and types nothing with terms and theories.
func TestP31PartsInNewMemory(t *testing.T) {
	x := of("(p:fun('a{c}, prop) $x:'a{c})")
	eq, _ := Eq(x, x)
	for i, whole := range []api.Term{Imp(x, Imp(x, x)), eq, Protect(x), All(of("$x:'a{c}"), x), app(app(x, x), x)} {
		before := text(whole)
		premises, end := Strip(whole)
		head, args := Spine(whole)
		a, b, _ := IsImp(whole)
		c, d, _ := IsEq(whole)
		e, _ := IsProtect(whole)
		f, _ := IsAll(whole)
		for _, part := range append(append(premises, args...), end, head, a, b, c, d, e, f) {
			spoil(part)
		}
		if text(whole) != before {
			t.Error(i)
		}
	}
	k, _ := TypeOf(of("$f:fun('a{c}, nat)"))
	f := of("$f:fun('a{c}, nat)")
	l, _ := Check(small(), f)
	m, _ := TypeOf(f)
	v := TypeVariables(f)
	thy := small()
	g, _ := Sign(thy)
	s, ok := g.Const("s")
	for _, k := range []api.Type{k, l, m, s, thy.Consts[3].Type} {
		k.Args[0].Name = "spoilt"
	}
	v[0].Sort[0] = "spoilt"
	if again, _ := g.Const("s"); !ok || text(f) != text(of("$f:fun('a{c}, nat)")) || again.Args[0].Name != "nat" {
		t.Error("types")
	}
	if _, ok := g.Const("q"); ok || !g.Sorts().Known([]string{"c", "d"}) {
		t.Error("Signature")
	}
}

// A walk ends wherever it is left.
func TestP31Nodes(t *testing.T) {
	x := app(app(nat(api.Free, "a"), nat(api.Free, "b")), nat(api.Free, "c"))
	for n := range 6 {
		s := ""
		count := 0
		for k := range Nodes(x) {
			if count == n {
				break
			}
			count++
			s += k.Name
		}
		if s != "abc"[:max(0, min(n-2, 3))] {
			t.Error(n, s)
		}
	}
}

// spoil writes into all memory of a term, and returns in how many places of Kids no one has written.
func spoil(t api.Term) int {
	for k := range t.Type.Args {
		t.Type.Args[k].Name = "spoilt"
		for s := range t.Type.Args[k].Sort {
			t.Type.Args[k].Sort[s] = "spoilt"
		}
	}
	for s := range t.Type.Sort {
		t.Type.Sort[s] = "spoilt"
	}
	n := 0
	for k := range t.Kids {
		n += spoil(t.Kids[k])
		if t.Kids[k].Num != 77 {
			n++
		}
		t.Kids[k].Num = 77
	}
	return n
}

// What is nested as far as the document's bound is walked, too.
func TestP31Nested(t *testing.T) {
	x := app(nat(api.Free, "x"), nat(api.Free, "y"))
	for range 1<<15 - 2 {
		x = abs(app(x, bound(0)))
	}
	if n, d := Size(x); d != 1<<16-2 || n != 3*(1<<15-2)+3 {
		t.Error(n, d)
	}
	i := api.Inst{Types: []api.TypeBind{{Name: "a", To: typ("nat")}}}
	y := Apply(i, x)
	if !Equal(x, y) || Compare(x, y) != 0 || !Closed(x) || MaxIndex(x) != -1 || len(Frees(x)) != 2 || !Equal(Raise(Lift(x, 3), 3), x) || !Closed(Put(Bind(of("$x:N"), x), of("$y:N"))) {
		t.Error("walks")
	}
	for _, e := range []api.Errno{second(TypeOf(x)), second(Text(x)), second(Norm(x, 9)), second(Check(small(), x))} {
		if e != api.ErrCount {
			t.Error(e)
		}
	}
	if len(Vars(x)) != 0 || len(TypeVariables(x)) != 0 {
		t.Error("Vars")
	}
}

func second[T any](_ T, e api.Errno) api.Errno { return e }

// NormWithin is Norm with other limits of what stands on the way.
func TestP31NormWithin(t *testing.T) {
	x := of("((\\x:N . ((f:fun(N, fun(N, N)) #0) #0)) (s:fun(N, N) z:N))") // 10 nodes, and then 9: f (s z) (s z)
	for i, c := range []struct {
		fuel, nodes, depth int
		e                  api.Errno
	}{{1, 10, 5, api.OK}, {1, 9, 5, api.ErrCount}, {0, 10, 5, api.ErrFuel}, {1, 10, 4, api.ErrDepth}, {-1, 1, 1, api.ErrCount}, {1, -1, 5, api.ErrCount}} {
		n, e := NormWithin(x, c.fuel, c.nodes, c.depth)
		size, _ := Size(n)
		if e != c.e || e == api.OK && size != 9 || e != api.OK && n.Op != 0 {
			t.Error(i, e, size)
		}
	}
}

func TestP31Agree(t *testing.T) {
	for i, c := range []struct {
		l []string
		e api.Errno
	}{
		{nil, api.OK}, {[]string{"$x:N", "?x.0:prop", "?x.1:N", "x:prop"}, api.OK}, {[]string{"$x:N", "$x:prop"}, api.ErrType}, {[]string{"?x.1:N", "($y:prop ?x.1:prop)"}, api.ErrType}, {[]string{"$x:'a", "$y:'a{c}"}, api.ErrSort}, {[]string{"$x:N", "$x:prop", "$z:?a.0", "$y:?a.0{c}"}, api.ErrSort}, {[]string{"$x:'a", "$y:?a.0{c}"}, api.OK},
	} {
		var l []api.Term
		for _, s := range c.l {
			l = append(l, of(s))
		}
		if e := Agree(l); e != c.e {
			t.Error(i, e)
		}
	}
}

// An Instance knows how large a term will be.
func TestP31Instance(t *testing.T) {
	big := of("(s:fun(N, N) z:N)")
	x := NewInstance(api.Inst{Types: []api.TypeBind{{Name: "a", To: typ("list(list(nat))")}}, Terms: []api.TermBind{{Name: "v", To: big}, {Name: "v", To: of("z:N")}}})
	for i, s := range []string{"?v.0:N", "(f:N ?v.0:N)", "?v.1:?a.0", "(\\x:?a.0 . ((f:N ?v.0:N) ?v.0:N))", "z:N"} {
		n, d := x.Size(of(s))
		n2, d2 := Size(x.Apply(of(s)))
		if n != n2 || d != d2 {
			t.Error(i, n, d)
		}
	}
	if !x.TypesWithin(of("$k:?a.0"), 3, 3) || x.TypesWithin(of("(f:N $k:?a.0)"), 2, 3) || x.TypesWithin(of("(\\x:?a.0 . #0)"), 3, 2) || !x.TypesWithin(of("?v.0:?a.0"), 1, 1) {
		t.Error("types")
	}
	y := of("?v.0:N")
	for range 40 {
		y = app(y, y)
		x = NewInstance(api.Inst{Terms: []api.TermBind{{Name: "v", To: y}}})
		if n, _ := Size(y); n > 1000 {
			break
		}
	}
	n, _ := Size(y)
	if m, _ := x.Size(y); m != (n+1)/2*n+(n-1)/2 {
		t.Error(m)
	}
}
