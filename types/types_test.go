package types

import (
	"fmt"
	"slices"
	"strings"
	"testing"

	"triforium/api"
	"triforium/sort"
)

// small has the classes c and d, neither below the other one, e below both, and u above c; nat is of c, list of c (of c) and of d (of c and d).
func small() api.Theory {
	return api.Theory{
		Name:    "T",
		Classes: []api.Class{{Name: "u"}, {Name: "c", Supers: []string{"u"}}, {Name: "d"}, {Name: "e", Supers: []string{"c", "d"}}},
		Types:   []api.TypeDecl{{Name: "fun", Arity: 2}, {Name: "prop"}, {Name: "nat"}, {Name: "list", Arity: 1}, {Name: "tree", Arity: 10}},
		Arities: []api.Arity{
			{Type: "nat", Class: "u"}, {Type: "nat", Class: "c"},
			{Type: "list", Class: "u", Sorts: [][]string{{"u"}}}, {Type: "list", Class: "c", Sorts: [][]string{{"c"}}}, {Type: "list", Class: "d", Sorts: [][]string{{"c", "d"}}},
		},
	}
}

// of reads a type of whatever form.
func of(s string) api.Type {
	r := Reader{Rest: s}
	t, ok := r.Type()
	if !ok || r.Rest != "" {
		panic("no type: " + s)
	}
	return t
}

func con(name string, args ...api.Type) api.Type {
	return api.Type{Op: api.TCon, Name: name, Args: args}
}

// text writes any type of the three kinds.
func text(t api.Type) string {
	var b strings.Builder
	write(&b, t)
	return b.String()
}

func texts(l []api.Type) string {
	var s []string
	for _, t := range l {
		s = append(s, text(t))
	}
	return strings.Join(s, " ")
}

func bindText(l []api.TypeBind) string {
	var s []string
	for _, b := range l {
		s = append(s, fmt.Sprintf("%s.%d=%s", b.Name, b.Index, text(b.To)))
	}
	return strings.Join(s, " ")
}

// full returns a tree of constructors that take just as many arguments as they have, with n nodes: n-1 must be divisible by 10.
func full(n int, leaf api.Type) api.Type {
	queue := []*api.Type{{Op: api.TCon, Name: "tree"}}
	root := queue[0]
	for n--; n > 0; n -= 10 {
		t := queue[0]
		queue = queue[1:]
		*t = api.Type{Op: api.TCon, Name: "tree", Args: slices.Repeat([]api.Type{leaf}, 10)}
		for i := range t.Args {
			queue = append(queue, &t.Args[i])
		}
	}
	return *root
}

// deep returns lists within each other, of a depth.
func deep(depth int, leaf api.Type) api.Type {
	for range depth - 1 {
		leaf = con("list", leaf)
	}
	return leaf
}

func TestP21Builders(t *testing.T) {
	f := Fun(of("nat"), of("?a.0"))
	if text(f) != "fun(nat, ?a.0)" || text(Prop()) != "prop" || Prop().Op != api.TCon {
		t.Error(text(f))
	}
	for _, x := range [][3]string{
		{"nat", "", "nat"}, {"fun(nat, prop)", "nat", "prop"}, {"fun(fun(nat, nat), fun(?a.0, prop))", "fun(nat, nat) ?a.0", "prop"}, {"fun(nat, fun(nat))", "nat", "fun(nat)"},
		{"fun(a, b, c)", "", "fun(a, b, c)"}, {"fun", "", "fun"}, {"'fun(a, b)", "", "'fun(a, b)"}, {"fun{c}(a, b)", "", "fun{c}(a, b)"},
	} {
		args, result := Strip(of(x[0]))
		if texts(args) != x[1] || text(result) != x[2] {
			t.Error(x, texts(args), text(result))
		}
	}
	odd := Fun(of("nat"), of("nat"))
	odd.Index = 1
	if args, result := Strip(odd); len(args) != 0 || !Equal(result, odd) {
		t.Error("this is not what Fun makes")
	}
}

func TestP21Walks(t *testing.T) {
	// a variable with Args, that is not of the right form: they are walked, too
	odd := of("'x(?a.3, list(?b.5{c}), ?y.4(?a.3, 'x, ?a.3{c}))")
	if n, d := Size(odd); n != 8 || d != 3 {
		t.Error("Size", n, d)
	}
	if s := texts(Variables(odd)); s != "'x ?a.3 ?b.5{c} ?y.4 ?a.3{c}" {
		t.Error("Variables", s)
	}
	if MaxIndex(odd) != 5 || MaxIndex(of("list('a)")) != -1 || MaxIndex(api.Type{}) != -1 || MaxIndex(of("fun(?a.0, ?a.2)")) != 2 {
		t.Error("MaxIndex")
	}
	if n, d := Size(api.Type{}); n != 1 || d != 1 || len(Variables(api.Type{})) != 0 {
		t.Error(n, d)
	}
	if MaxIndex(api.Type{Op: api.TVar, Index: -7}) != -7 || MaxIndex(api.Type{Op: 9, Index: 7}) != -1 {
		t.Error("numbers below 0, kinds that there are not")
	}
	if s := text(Raise(odd, 10)); s != "'x(?a.13, list(?b.15{c}), ?y.14(?a.13, 'x, ?a.13{c}))" {
		t.Error("Raise", s)
	}
	l := []api.TypeBind{{Name: "a", Index: 3, To: of("list(?b.5)")}, {Name: "a", Index: 3, To: of("nat")}, {Name: "y", Index: 4, To: of("?a.3")}, {Name: "x", To: of("nat")}}
	if s := text(Apply(l, odd)); s != "'x(list(?b.5), list(?b.5{c}), ?a.3)" {
		t.Error("Apply", s)
	}
	if s := text(Apply(nil, odd)); s != text(odd) {
		t.Error(s)
	}
}

// A walk ends wherever it is left.
func TestP21Nodes(t *testing.T) {
	x := of("f(g(a, b(c)), d)")
	for n := range 7 {
		var l []string
		for k := range Nodes(x) {
			if len(l) == n {
				break
			}
			l = append(l, k.Name)
		}
		if strings.Join(l, "") != "fgabcd"[:min(n, 6)] {
			t.Error(n, l)
		}
	}
}

func TestP21NewMemory(t *testing.T) {
	x := of("fun(list(?a.0{c}), 'b{d})")
	l := []api.TypeBind{{Name: "a", To: of("list('k{c})")}}
	m, e := Match(small(), of("fun(?x.0, ?y.0)"), x, l)
	if e != api.OK {
		t.Fatal(e)
	}
	args, result := Strip(x)
	made := []api.Type{Copy(x), Fun(x, x), Apply(l, x), Apply(nil, x), Raise(x, 0), args[0], result, m[0].To, m[1].To, m[2].To, of("fun(?a.0, ?a.0)")}
	made = append(made, Variables(x)...)
	u, _ := Unify(small(), of("fun(?p.0, ?q.0)"), Fun(x, x))
	made = append(made, u[0].To, u[1].To, Apply([]api.TypeBind{{Name: "a", To: x}}, made[10]))
	before := texts(made)
	for i := range made {
		own := text(made[i])
		spoil(made[i])
		for k := range made {
			if k != i && k > i && !strings.Contains(before, text(made[k])) {
				t.Error("shared", i, k, own)
			}
		}
	}
	if text(x) != "fun(list(?a.0{c}), 'b{d})" || text(l[0].To) != "list('k{c})" {
		t.Error("an argument was changed", text(x), text(l[0].To))
	}
	// two Args of one result
	if f := Fun(x, x); f.Args[0].Args[0].Args[0].Sort[0] == "c" {
		f.Args[0].Args[0].Args[0].Sort[0] = "x"
		if text(f.Args[1]) != "fun(list(?a.0{c}), 'b{d})" {
			t.Error("shared in one result")
		}
	}
}

// spoil writes into all memory of a type.
func spoil(t api.Type) {
	for i := range t.Sort {
		t.Sort[i] = "spoilt"
	}
	for i := range t.Args {
		spoil(t.Args[i])
		t.Args[i] = api.Type{Op: api.TCon, Name: "spoilt"}
	}
}

func TestP21Form(t *testing.T) {
	nat := con("nat")
	sorts := func(n int) []string {
		var l []string
		for i := range n {
			l = append(l, fmt.Sprintf("k%02d", i))
		}
		return l
	}
	for i, x := range []struct {
		t api.Type
		e api.Errno
	}{
		{nat, api.OK}, {of("fun('a{c,d}, ?b.1000000{c})"), api.OK},
		{api.Type{}, api.ErrForm}, {api.Type{Op: 4, Name: "a"}, api.ErrForm}, {api.Type{Op: -1, Name: "a"}, api.ErrForm},
		{api.Type{Op: api.TCon, Name: "a", Index: 1}, api.ErrForm}, {of("nat{c}"), api.ErrForm}, {of("'a(nat)"), api.ErrForm}, {of("?a.0(nat)"), api.ErrForm},
		{api.Type{Op: api.TFree, Name: "a", Index: 1}, api.ErrForm}, {api.Type{Op: api.TFree, Name: "a", Sort: []string{}, Args: []api.Type{}}, api.OK},
		{of("?a.1000001"), api.ErrRange}, {api.Type{Op: api.TVar, Name: "1", Index: -1}, api.ErrRange}, {api.Type{Op: api.TVar, Name: "a", Index: -1, Args: []api.Type{nat}}, api.ErrForm},
		{con("1"), api.ErrForm}, {con(""), api.ErrForm}, {con("\xff"), api.ErrForm}, {of("'1"), api.ErrForm}, {of("?a'.0"), api.OK},
		{of("'a{d,c}"), api.ErrForm}, {of("'a{c,c}"), api.ErrForm}, {of("'a{1}"), api.ErrForm}, {of("'a{}"), api.ErrForm},
		{api.Type{Op: api.TFree, Name: "a", Sort: sorts(20)}, api.OK}, {api.Type{Op: api.TFree, Name: "a", Sort: sorts(21)}, api.ErrCount},
		{api.Type{Op: api.TFree, Name: "a", Sort: append(sorts(21), "k")}, api.ErrForm}, {api.Type{Op: api.TFree, Name: "", Sort: sorts(21)}, api.ErrForm},
		{con("list", of("?a.1000001"), of("1")), api.ErrRange}, {con("1", of("?a.1000001")), api.ErrForm}, {con("list", con("list", of("?a.1000001")), con("1")), api.ErrRange},
		{con(strings.Repeat("a", 40)), api.OK}, {con(strings.Repeat("a", 41)), api.ErrForm},
		{full(19991, nat), api.OK}, {con("f", full(19991, nat), con("g", deep(7, nat))), api.OK}, {con("f", full(19991, nat), con("g", deep(8, nat))), api.ErrCount},
		{deep(500, nat), api.OK}, {deep(501, nat), api.ErrDepth}, {deep(20000, nat), api.ErrDepth}, {deep(20001, nat), api.ErrCount}, {deep(501, con("1")), api.ErrDepth}, {deep(70000, nat), api.ErrCount},
	} {
		if e := Form(x.t); e != x.e {
			t.Error(i, e, x.e)
		}
		if s, e := Text(x.t); e != x.e || e != api.OK && s != "" {
			t.Error("Text", i, e, x.e)
		}
	}
}

func TestP21Check(t *testing.T) {
	thy := small()
	for i, x := range []struct {
		t string
		e api.Errno
	}{
		{"fun('a{c,d}, list(?b.3{e}))", api.OK}, {"list", api.ErrCount}, {"list(nat, nat)", api.ErrCount}, {"nat(nat)", api.ErrCount}, {"set(nat)", api.ErrMissing},
		{"'a{x}", api.ErrMissing}, {"'a{c,u}", api.ErrSort}, {"'a{c,e,x}", api.ErrMissing}, {"?a.0{c,e}", api.ErrSort}, {"'a{d,u}", api.OK},
		{"fun('a, 'a{c})", api.ErrSort}, {"fun(?a.0, ?a.0{c})", api.ErrSort}, {"fun(?a.0, ?a.1{c})", api.OK}, {"fun('a, ?a.0{c})", api.OK},
		{"fun('a, fun('a{c}, set))", api.ErrMissing}, {"fun(list, set)", api.ErrCount}, {"set(1)", api.ErrForm}, {"fun(list, ?a.1000001)", api.ErrRange}, {"set(list)", api.ErrMissing}, {"list(list, nat)", api.ErrCount},
	} {
		if e := Check(thy, of(x.t)); e != x.e {
			t.Error(i, x.t, e, x.e)
		}
	}
	thy.Arities = append(thy.Arities, api.Arity{})
	if e := Check(thy, api.Type{}); e != api.ErrMissing {
		t.Error("the theory comes first", e)
	}
	thy = small()
	thy.Classes = append(thy.Classes, api.Class{Name: "1"})
	if e := Check(thy, api.Type{}); e != sort.ErrName {
		t.Error(e)
	}
}

func TestP21HasSort(t *testing.T) {
	thy := small()
	for i, x := range []struct {
		t    string
		s    []string
		want bool
	}{
		{"nat", nil, true}, {"nat", []string{"c"}, true}, {"nat", []string{"d"}, false}, {"nat", []string{"c", "u", "c"}, true}, {"nat", []string{"x"}, false},
		{"list('a{e})", []string{"c", "d"}, true}, {"list('a{c})", []string{"d"}, false}, {"list('a{d})", []string{"c"}, false}, {"list(list('a{c}))", []string{"u"}, true}, {"list(list(list('a{c})))", []string{"d"}, false},
		{"?a.0", []string{"c"}, false}, {"?a.0{e}", []string{"u", "d"}, true}, {"prop", []string{"u"}, false}, {"fun(nat, nat)", []string{"u"}, false},
		{"set", nil, false}, {"list", nil, false}, {"fun('a, 'a{c})", nil, false}, {"'a{d,c}", nil, false}, {"nat", slices.Repeat([]string{"c"}, 20), true}, {"nat", slices.Repeat([]string{"c"}, 21), false},
	} {
		if HasSort(thy, of(x.t), x.s) != x.want {
			t.Error(i, x.t, x.s)
		}
	}
	thy.Classes[0].Name = ""
	if HasSort(thy, of("nat"), nil) {
		t.Error("a theory that is not right")
	}
}

func TestP22Order(t *testing.T) {
	l := []api.Type{
		{}, con("a"), con("a", con("a")), con("a", con("a"), con("a")), con("a", con("b")), {Op: api.TCon, Name: "a", Sort: []string{"c"}}, {Op: api.TCon, Name: "a", Index: 1}, con("a'"), con("aa"), con("b"),
		{Op: api.TFree, Name: "a"}, {Op: api.TFree, Name: "b"}, {Op: api.TVar, Name: "a", Index: -1}, of("?a.0"), of("?a.0(nat)"), of("?a.0{c}"), of("?a.0{c,d}"), of("?a.0{d}"), of("?a.1"), of("?b.0"), {Op: 7},
	}
	for i, a := range l {
		for k, b := range l {
			want := 0
			if i < k {
				want = -1
			} else if i > k {
				want = 1
			}
			if c := Compare(a, b); c != want || Equal(a, b) != (i == k) {
				t.Error(i, k, c)
			}
		}
	}
	empty := api.Type{Op: api.TCon, Name: "a", Sort: []string{}, Args: []api.Type{}}
	if !Equal(con("a"), empty) || Compare(con("a"), empty) != 0 {
		t.Error("nil and empty")
	}
}

func TestP21Match(t *testing.T) {
	thy := small()
	for i, x := range []struct {
		p, t string
		l    []api.TypeBind
		want string
		e    api.Errno
	}{
		{"fun(?a.0, fun(?b.0, ?a.0))", "fun(nat, fun(prop, nat))", nil, "a.0=nat b.0=prop", api.OK},
		{"fun(?b.0, ?a.1)", "fun('a{c}, list(?b.0))", nil, "b.0='a{c} a.1=list(?b.0)", api.OK},
		{"?a.0", "?a.0", nil, "a.0=?a.0", api.OK},
		{"nat", "nat", nil, "", api.OK}, {"'a{c}", "'a{c}", nil, "", api.OK}, {"'a{c}", "'a", nil, "", api.ErrFail}, {"'a", "'b", nil, "", api.ErrFail}, {"'a", "?a.0", nil, "", api.ErrFail},
		{"nat", "?a.0", nil, "", api.ErrFail}, {"nat", "prop", nil, "", api.ErrFail}, {"fun(?a.0, ?a.0)", "fun(nat, prop)", nil, "", api.ErrFail},
		{"?a.0{c}", "nat", nil, "a.0=nat", api.OK}, {"?a.0{d}", "nat", nil, "", api.ErrFail}, {"?a.0{c}", "'a{e}", nil, "a.0='a{e}", api.OK}, {"?a.0{d}", "list(?b.0{c,d})", nil, "a.0=list(?b.0{c,d})", api.OK}, {"?a.0{d}", "list(?b.0{d})", nil, "", api.ErrFail},
		{"fun(?a.0, ?b.0)", "fun(nat, prop)", []api.TypeBind{{Name: "b", To: of("prop")}, {Name: "b", To: of("nat")}, {Name: "k", Index: -3, To: of("?k.0")}}, "b.0=prop b.0=nat k.-3=?k.0 a.0=nat", api.OK},
		{"fun(?a.0, ?b.0)", "fun(nat, prop)", []api.TypeBind{{Name: "b", To: of("nat")}, {Name: "b", To: of("prop")}}, "", api.ErrFail},
		{"?a.0{d}", "nat", []api.TypeBind{{Name: "a", To: of("nat")}}, "a.0=nat", api.OK},
		{"set", "1", nil, "", api.ErrMissing}, {"nat", "list", nil, "", api.ErrCount}, {"list", "set", nil, "", api.ErrCount},
		{"nat", "prop", []api.TypeBind{{To: of("nat")}, {To: of("list")}, {To: of("set")}}, "", api.ErrCount},
		{"nat", "nat", slices.Repeat([]api.TypeBind{{Name: "a", To: of("nat")}}, 301), "", api.ErrCount}, {"nat", "nat", slices.Repeat([]api.TypeBind{{Name: "a", To: of("set")}}, 301), "", api.ErrCount},
		{"nat", "nat", slices.Repeat([]api.TypeBind{{Name: "a", To: of("set")}}, 300), "", api.ErrMissing},
	} {
		m, e := Match(thy, of(x.p), of(x.t), x.l)
		if e != x.e || bindText(m) != x.want {
			t.Error(i, bindText(m), e)
		}
	}
	m, e := Match(thy, of("?a.0"), of("nat"), slices.Repeat([]api.TypeBind{{Name: "b", To: of("nat")}}, 300))
	if e != api.OK || len(m) != 301 {
		t.Error("the limit is one of the binds that are given", len(m), e)
	}
	thy.Types[0].Name = ""
	if _, e := Match(thy, api.Type{}, api.Type{}, nil); e != sort.ErrName {
		t.Error(e)
	}
}

func TestP25Texts(t *testing.T) {
	for _, s := range []string{"nat", "fun('a{c,d}, list(?b.3))", "?a.b.0", "?_'.1000000{x.y,z'}", "f(g(h(a, b), c), d)", "'a"} {
		x, e := Read(s)
		back, f := Text(x)
		if e != api.OK || f != api.OK || back != s || Form(x) != api.OK {
			t.Error(s, e, back, f)
		}
	}
	for s, want := range map[string]api.Errno{
		"": api.ErrText, " ": api.ErrText, "nat ": api.ErrText, " nat": api.ErrText, "fun(": api.ErrText, "fun(a": api.ErrText, "fun(a,": api.ErrText, "fun(a,b)": api.ErrText, "fun(a,  b)": api.ErrText, "fun(a, b": api.ErrText, "fun(a b)": api.ErrText, "a)": api.ErrText, "f(a))": api.ErrText, "f(a)(b)": api.ErrText, "f(a){c}": api.ErrText,
		"?a": api.ErrText, "?": api.ErrText, "?a.": api.ErrText, "?a.01": api.ErrText, "?a.00": api.ErrText, "?a.x": api.ErrText, "?a.1x": api.ErrText, "?a.-1": api.ErrText, "?a.+1": api.ErrText, "?a.12345678": api.ErrText, "?a.1_0": api.ErrText,
		"'a{": api.ErrText, "'a{c": api.ErrText, "'a{c,": api.ErrText, "'a{c, d}": api.ErrText, "'a{c}{d}": api.ErrText, "'a}": api.ErrText, "a\xff": api.ErrText, "\xff": api.ErrText, "é": api.ErrText, "a-b": api.ErrText, "a\n": api.ErrText, "list(é)": api.ErrText,
		"'a{}": api.ErrForm, "list()": api.ErrForm, "'": api.ErrForm, "?.0": api.ErrForm, "1": api.ErrForm, "''a": api.ErrForm, "nat{c}": api.ErrForm, "'a(b)": api.ErrForm, "'a{d,c}": api.ErrForm, "f(, )": api.ErrForm, "{c}": api.ErrForm, "(a)": api.ErrForm,
		"?a.1000001": api.ErrRange, "?a.9999999": api.ErrRange, "f(1, ?a.1000001)": api.ErrForm, "f(?a.1000001, 1)": api.ErrRange, "f(1, ?a)": api.ErrText, strings.Repeat("a", 41): api.ErrForm,
		strings.Repeat("l(", 499) + "a" + strings.Repeat(")", 499): api.OK, strings.Repeat("l(", 500) + "a" + strings.Repeat(")", 500): api.ErrText, strings.Repeat("1(", 500) + "a" + strings.Repeat(")", 500): api.ErrText, strings.Repeat("(", 40000): api.ErrText,
		strings.Repeat("a", 40000): api.ErrForm, strings.Repeat("a", 40001): api.ErrLarge, strings.Repeat(" ", 40001): api.ErrLarge,
		"(" + strings.Repeat(", ", 19999) + ")": api.ErrCount, "(" + strings.Repeat(", ", 19998) + ")": api.ErrForm,
	} {
		x, e := Read(s)
		if e != want || e != api.OK && x.Op != 0 {
			t.Errorf("%.30q: %d, not %d", s, e, want)
		}
	}
}

// Text has no limit but those of types.
func TestP25LongText(t *testing.T) {
	x := full(19991, con(strings.Repeat("a", 40)))
	s, e := Text(x)
	if e != api.OK || len(s) < 18*api.MaxText {
		t.Error(len(s), e)
	}
	y, e := Read("f(" + strings.Repeat("a, ", 13332) + "a)")
	if e != api.OK || len(y.Args) != 13333 {
		t.Error(e)
	}
}

// What is nested as far as the document's bound is walked, too.
func TestP21Nested(t *testing.T) {
	x := deep(1<<16, of("?a.0"))
	if n, d := Size(x); n != 1<<16 || d != 1<<16 {
		t.Error(n, d)
	}
	if !Equal(x, Apply(nil, x)) || Compare(x, Raise(x, 1)) != -1 || MaxIndex(x) != 0 || len(Variables(x)) != 1 {
		t.Error("walks")
	}
	if _, e := Unify(small(), x, x); e != api.ErrCount {
		t.Error(e)
	}
	if HasSort(small(), x, nil) {
		t.Error("HasSort")
	}
}
