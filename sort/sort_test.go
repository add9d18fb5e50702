package sort

import (
	"fmt"
	"slices"
	"strings"
	"testing"

	"triforium/api"
)

// orders has the classes ord, linorder below it, and c, and the constructors list, nat and pair.
func orders() api.Theory {
	return api.Theory{
		Name:    "T",
		Classes: []api.Class{{Name: "ord"}, {Name: "linorder", Supers: []string{"ord"}}, {Name: "c"}},
		Types:   []api.TypeDecl{{Name: "list", Arity: 1}, {Name: "nat"}, {Name: "pair", Arity: 2}},
		Arities: []api.Arity{
			{Type: "list", Class: "ord", Sorts: [][]string{{"ord"}}},
			{Type: "list", Class: "linorder", Sorts: [][]string{{"linorder"}}},
			{Type: "list", Class: "c", Sorts: [][]string{nil}},
			{Type: "nat", Class: "linorder"},
			{Type: "nat", Class: "ord", Sorts: [][]string{}},
			{Type: "pair", Class: "c", Sorts: [][]string{{"c", "ord"}, {"ord"}}},
		},
	}
}

// names returns n names with a letter ahead.
func names(letter string, n int) []string {
	var l []string
	for i := range n {
		l = append(l, fmt.Sprintf("%s%03d", letter, i))
	}
	return l
}

// flat returns a theory with n classes, none below another one.
func flat(n int) api.Theory {
	t := api.Theory{Name: "T"}
	for _, s := range names("k", n) {
		t.Classes = append(t.Classes, api.Class{Name: s})
	}
	return t
}

func TestP11IsName(t *testing.T) {
	for s, want := range map[string]bool{
		"a": true, "z": true, "A": true, "Z": true, "a09": true, "aAZ": true, "_": true, "_1": true, "a'": true, "a.b.": true, "x'.1_": true,
		"": false, "1": false, "'a": false, ".a": false, "a b": false, "a-": false, "a\x00": false, "\xff": false, "a\xff": false, "é": false, "aé": false, "a,": false,
		"a/": false, "a:": false, "a@": false, "a[": false, "a`": false, "a{": false, "@": false, "[": false, "`": false, "{": false,
		strings.Repeat("a", 40): true, strings.Repeat("a", 41): false,
	} {
		if IsName(s) != want {
			t.Errorf("%q: %v", s, !want)
		}
	}
}

func TestP11CheckClasses(t *testing.T) {
	supers := func(s ...string) []string { return s }
	for i, x := range []struct {
		l []api.Class
		e api.Errno
	}{
		{nil, api.OK},
		{flat(300).Classes, api.OK},
		{flat(301).Classes, api.ErrCount},
		{append([]api.Class{{Name: "1"}}, flat(300).Classes...), api.ErrCount}, // limits ahead of contents
		{[]api.Class{{Name: ""}}, ErrName},
		{[]api.Class{{Name: "a"}, {Name: "a"}}, api.ErrDuplicate},
		{[]api.Class{{Name: "1"}, {Name: "1"}}, ErrName},
		{append(flat(20).Classes, api.Class{Name: "a", Supers: names("k", 20)}), api.OK},
		{append(flat(21).Classes, api.Class{Name: "a", Supers: names("k", 21)}), api.ErrCount},
		{[]api.Class{{Name: "a", Supers: names("k", 21)}}, api.ErrCount},
		{append(flat(1).Classes, api.Class{Name: "k000", Supers: names("k", 21)}), api.ErrDuplicate},
		{[]api.Class{{Name: "a", Supers: supers("a")}}, api.ErrMissing},
		{[]api.Class{{Name: "a", Supers: supers("b")}, {Name: "b"}}, api.ErrMissing},
		{[]api.Class{{Name: "a"}, {Name: "b"}, {Name: "c", Supers: supers("b", "a")}}, api.ErrOrder},
		{[]api.Class{{Name: "a"}, {Name: "c", Supers: supers("a", "a")}}, api.ErrOrder},
		{[]api.Class{{Name: "b"}, {Name: "c", Supers: supers("b", "a")}}, api.ErrMissing},
		{[]api.Class{{Name: "a"}, {Name: "b"}, {Name: "c", Supers: supers("b", "a", "x")}}, api.ErrOrder}, // super by super
		{[]api.Class{{Name: "a", Supers: supers("x")}, {Name: "1"}}, api.ErrMissing},                      // class by class
		{[]api.Class{{Name: "a"}, {Name: "b", Supers: []string{}}, {Name: "c", Supers: supers("a", "b")}}, api.OK},
	} {
		if e := Check(api.Theory{Classes: x.l}); e != x.e {
			t.Error(i, e, x.e)
		}
	}
}

func TestP11CheckTypes(t *testing.T) {
	var many []api.TypeDecl
	for _, s := range names("t", 301) {
		many = append(many, api.TypeDecl{Name: s})
	}
	for i, x := range []struct {
		l []api.TypeDecl
		e api.Errno
	}{
		{many[:300], api.OK},
		{many, api.ErrCount},
		{[]api.TypeDecl{{Name: "a b"}}, ErrName},
		{[]api.TypeDecl{{Name: "a", Arity: 10}, {Name: "b", Arity: 0}}, api.OK},
		{[]api.TypeDecl{{Name: "a", Arity: 11}}, api.ErrRange},
		{[]api.TypeDecl{{Name: "a", Arity: -1}}, api.ErrRange},
		{[]api.TypeDecl{{Name: "a"}, {Name: "a", Arity: -1}}, api.ErrDuplicate},
		{[]api.TypeDecl{{Name: "a", Arity: -1}, {Name: ""}}, api.ErrRange},
	} {
		if e := Check(api.Theory{Types: x.l}); e != x.e {
			t.Error(i, e, x.e)
		}
	}
	if e := Check(api.Theory{Classes: []api.Class{{Name: "a"}, {Name: "a"}}, Types: []api.TypeDecl{{Name: ""}}}); e != api.ErrDuplicate {
		t.Error("classes come first", e)
	}
}

func TestP11CheckArities(t *testing.T) {
	of := func(name, class string, s ...[]string) api.Arity {
		return api.Arity{Type: name, Class: class, Sorts: s}
	}
	for i, x := range []struct {
		more []api.Arity
		e    api.Errno
	}{
		{nil, api.OK},
		{[]api.Arity{of("set", "ord", []string{"x"})}, api.ErrMissing},
		{[]api.Arity{of("nat", "x")}, api.ErrMissing},
		{[]api.Arity{of("nat", "ord")}, api.ErrDuplicate},
		{[]api.Arity{of("nat", "ord", nil)}, api.ErrDuplicate},
		{[]api.Arity{of("nat", "c", nil)}, api.ErrCount},
		{[]api.Arity{of("pair", "ord", nil)}, api.ErrCount},
		{[]api.Arity{of("pair", "ord", names("k", 21), nil)}, api.ErrCount},
		{[]api.Arity{of("pair", "ord", []string{"x"}, names("k", 21))}, api.ErrMissing}, // sort by sort
		{[]api.Arity{of("pair", "ord", []string{"x", "ord", "ord"}, nil)}, api.ErrMissing},
		{[]api.Arity{of("pair", "ord", []string{"ord", "c"}, nil)}, api.ErrSort},
		{[]api.Arity{of("pair", "ord", []string{"c", "c"}, nil)}, api.ErrSort},
		{[]api.Arity{of("pair", "ord", []string{"linorder", "ord"}, nil)}, api.ErrSort},
		{[]api.Arity{of("pair", "linorder", nil, nil), of("nat", "x")}, api.ErrMissing}, // complete comes last
		{[]api.Arity{of("pair", "linorder", nil, nil)}, ErrRegular},
		{[]api.Arity{of("pair", "linorder", []string{"ord"}, nil), of("pair", "ord", []string{"linorder"}, nil)}, ErrRegular},
		{[]api.Arity{of("pair", "linorder", nil, nil), of("pair", "ord", nil, []string{"c"})}, ErrRegular},
		{[]api.Arity{of("pair", "linorder", []string{"linorder"}, []string{"c"}), of("pair", "ord", []string{"ord"}, nil)}, api.OK},
	} {
		thy := orders()
		thy.Arities = append(thy.Arities, x.more...)
		if e := Check(thy); e != x.e {
			t.Error(i, e, x.e)
		}
	}
}

func TestP11ArityLimits(t *testing.T) {
	thy := flat(300)
	thy.Types = []api.TypeDecl{{Name: "t"}, {Name: "u", Arity: 1}}
	for _, c := range thy.Classes {
		thy.Arities = append(thy.Arities, api.Arity{Type: "t", Class: c.Name})
	}
	if e := Check(thy); e != api.OK {
		t.Error(e)
	}
	thy.Arities = append(thy.Arities, api.Arity{Type: "x"})
	if e := Check(thy); e != api.ErrCount {
		t.Error(e)
	}
	thy.Arities = []api.Arity{{Type: "u", Class: "k000", Sorts: [][]string{names("k", 20)}}}
	if e := Check(thy); e != api.OK {
		t.Error(e)
	}
}

func TestP11BelowAndLess(t *testing.T) {
	thy := orders()
	for _, x := range []struct {
		a, b string
		want bool
	}{{"linorder", "ord", true}, {"ord", "ord", true}, {"ord", "linorder", false}, {"c", "ord", false}, {"x", "x", false}, {"x", "ord", false}, {"ord", "x", false}, {"", "", false}} {
		if Below(thy, x.a, x.b) != x.want {
			t.Error(x)
		}
	}
	for i, x := range []struct {
		a, b []string
		want bool
	}{
		{nil, nil, true}, {nil, []string{}, true}, {[]string{"c"}, nil, true}, {nil, []string{"c"}, false},
		{[]string{"linorder"}, []string{"ord", "ord"}, true}, {[]string{"c", "linorder"}, []string{"ord", "c"}, true}, {[]string{"ord", "c"}, []string{"linorder"}, false},
		{[]string{"x"}, nil, false}, {[]string{"c", "x"}, []string{"c"}, false}, {[]string{"c"}, []string{"x"}, false},
		{slices.Repeat([]string{"linorder"}, 1000), slices.Repeat([]string{"ord"}, 1000), true},
	} {
		if Less(thy, x.a, x.b) != x.want {
			t.Error(i)
		}
	}
	thy.Types = append(thy.Types, api.TypeDecl{Name: ""})
	if !Below(thy, "linorder", "ord") || !Less(thy, []string{"c"}, nil) {
		t.Error("the constructors play no part")
	}
	thy.Classes = append(thy.Classes, api.Class{Name: ""})
	if Below(thy, "linorder", "ord") || Less(thy, nil, nil) {
		t.Error("wrong classes")
	}
}

func TestP11Normal(t *testing.T) {
	thy := orders()
	for i, x := range []struct {
		s, want []string
		e       api.Errno
	}{
		{nil, nil, api.OK}, {[]string{}, nil, api.OK},
		{[]string{"linorder", "ord"}, []string{"linorder"}, api.OK},
		{[]string{"ord", "c", "ord", "c"}, []string{"c", "ord"}, api.OK},
		{[]string{"linorder", "c", "ord"}, []string{"c", "linorder"}, api.OK},
		{[]string{"c", "x"}, nil, api.ErrMissing},
		{slices.Repeat([]string{"c"}, 20), []string{"c"}, api.OK},
		{slices.Repeat([]string{"c"}, 21), nil, api.ErrCount},
		{slices.Repeat([]string{"x"}, 21), nil, api.ErrCount},
	} {
		s := slices.Clone(x.s)
		n, e := Normal(thy, x.s)
		if e != x.e || !slices.Equal(n, x.want) || !slices.Equal(s, x.s) {
			t.Error(i, n, e)
		}
	}
	thy.Types = nil // arities of no constructor
	if n, e := Normal(thy, []string{"c"}); e != api.OK || len(n) != 1 {
		t.Error("the arities play no part", e)
	}
	thy.Classes = append(thy.Classes, api.Class{Name: "c"})
	if n, e := Normal(thy, slices.Repeat([]string{"x"}, 21)); e != api.ErrDuplicate || n != nil {
		t.Error(n, e)
	}
}

func TestP11Meet(t *testing.T) {
	thy := flat(40)
	l := names("k", 40)
	if m, e := Meet(thy, l[:10], l[10:20]); e != api.OK || !slices.Equal(m, l[:20]) {
		t.Error(m, e)
	}
	if m, e := Meet(thy, l[:20], l[:20]); e != api.OK || !slices.Equal(m, l[:20]) {
		t.Error(m, e)
	}
	for i, x := range []struct {
		a, b []string
		e    api.Errno
	}{
		{l[:20], l[20:21], api.ErrCount}, {l[:21], []string{"x"}, api.ErrCount}, {[]string{"x"}, l[:21], api.ErrMissing}, {l[:20], []string{"x"}, api.ErrMissing}, {nil, l[:21], api.ErrCount},
	} {
		if m, e := Meet(thy, x.a, x.b); e != x.e || m != nil {
			t.Error(i, e, x.e)
		}
	}
	// many classes whose meet is one
	thy.Classes = append(thy.Classes, api.Class{Name: "low", Supers: l[:20]}, api.Class{Name: "lower", Supers: append(slices.Clone(l[20:38]), "low")})
	if m, e := Meet(thy, l[:20], []string{"lower"}); e != api.OK || !slices.Equal(m, []string{"lower"}) {
		t.Error(m, e)
	}
	thy.Classes[0].Name = "k001"
	if _, e := Meet(thy, nil, nil); e != api.ErrDuplicate {
		t.Error(e)
	}
}

func TestP11Args(t *testing.T) {
	thy := orders()
	for i, x := range []struct {
		name string
		s    []string
		want string
		e    api.Errno
	}{
		{"list", []string{"linorder"}, "[[linorder]]", api.OK},
		{"list", []string{"linorder", "ord"}, "[[linorder]]", api.OK},
		{"list", []string{"c", "ord"}, "[[ord]]", api.OK},
		{"list", nil, "[[]]", api.OK},
		{"pair", []string{"c"}, "[[c ord] [ord]]", api.OK},
		{"nat", []string{"linorder"}, "[]", api.OK},
		{"set", []string{"x"}, "[]", api.ErrMissing},
		{"list", []string{"x"}, "[]", api.ErrMissing},
		{"list", slices.Repeat([]string{"x"}, 21), "[]", api.ErrCount},
		{"nat", []string{"c"}, "[]", api.ErrSort},
		{"pair", []string{"c", "ord"}, "[]", api.ErrSort},
	} {
		l, e := Args(thy, x.name, x.s)
		if e != x.e || fmt.Sprint(l) != x.want {
			t.Error(i, l, e)
		}
	}
	thy.Arities = thy.Arities[1:]
	if l, e := Args(thy, "set", nil); e != ErrRegular || l != nil {
		t.Error(l, e)
	}
}

// The sorts of an argument for two classes are too long together, or not, if a third one is below all of them.
func TestP11ArgsCount(t *testing.T) {
	thy := flat(24)
	l := names("k", 24)
	thy.Classes = append(thy.Classes, api.Class{Name: "x"}, api.Class{Name: "y"}, api.Class{Name: "z"}, api.Class{Name: "one", Supers: l[:20]})
	thy.Types = []api.TypeDecl{{Name: "t", Arity: 1}, {Name: "all"}}
	thy.Arities = []api.Arity{{Type: "t", Class: "x", Sorts: [][]string{l[:11]}}, {Type: "t", Class: "y", Sorts: [][]string{l[11:22]}}, {Type: "t", Class: "z", Sorts: [][]string{{"one"}}}}
	for _, c := range thy.Classes {
		thy.Arities = append(thy.Arities, api.Arity{Type: "all", Class: c.Name})
	}
	if a, e := Args(thy, "t", []string{"x", "y"}); e != api.ErrCount || a != nil {
		t.Error(a, e)
	}
	few := slices.Clone(thy.Arities)
	few[1].Sorts = [][]string{l[11:20]}
	if a, e := Args(api.Theory{Classes: thy.Classes, Types: thy.Types, Arities: few}, "t", []string{"x", "y"}); e != api.OK || len(a) != 1 || len(a[0]) != 20 {
		t.Error("just as many as permitted", a, e)
	}
	if a, e := Args(thy, "t", []string{"x", "y", "z"}); e != api.OK || fmt.Sprint(a) != "[[k020 k021 one]]" {
		t.Error(a, e)
	}
	if x, ok, e := Ground(thy, []string{"x", "y"}, 2); e != api.OK || !ok || x.Name != "t" || x.Args[0].Name != "all" {
		t.Error("a type has a sort although Args has too many classes", x, ok, e)
	}
}

func TestP11Ground(t *testing.T) {
	thy := orders()
	for i, x := range []struct {
		s     []string
		depth int
		want  string
		e     api.Errno
	}{
		{nil, 0, "", api.OK}, {nil, 1, "nat", api.OK}, {nil, 2, "list nat", api.OK}, {nil, 3, "list list nat", api.OK}, {nil, 5, "list list list list nat", api.OK},
		{[]string{"linorder"}, 1, "nat", api.OK}, {[]string{"c"}, 1, "", api.OK}, {[]string{"c"}, 2, "list nat", api.OK},
		{[]string{"ord", "c"}, 2, "list nat", api.OK},
		{nil, -1, "", api.ErrRange}, {nil, 6, "", api.ErrRange}, {[]string{"x"}, 6, "", api.ErrMissing}, {slices.Repeat([]string{"c"}, 21), -1, "", api.ErrCount},
	} {
		g, ok, e := Ground(thy, x.s, x.depth)
		if e != x.e || ok != (x.want != "") || ok && flatText(g) != x.want || !ok && g.Op != 0 {
			t.Error(i, flatText(g), ok, e)
		}
	}
	thy.Types = append(thy.Types, api.TypeDecl{Name: "nat"})
	if _, _, e := Ground(thy, []string{"x"}, 9); e != api.ErrDuplicate {
		t.Error(e)
	}
}

func flatText(t api.Type) string {
	s := t.Name
	for _, a := range t.Args {
		s += " " + flatText(a)
	}
	return s
}

// Ten arguments at each node: the type is a tree of 11111 nodes, none of which shares memory.
func TestP11GroundLarge(t *testing.T) {
	thy := api.Theory{Types: []api.TypeDecl{{Name: "t", Arity: 10}, {Name: "n"}}}
	x, ok, e := Ground(thy, nil, 5)
	if e != api.OK || !ok {
		t.Fatal(ok, e)
	}
	x.Args[0].Args[0].Name = "changed"
	if len(strings.Fields(flatText(x))) != 11111 || strings.Count(flatText(x), "changed") != 1 {
		t.Error("shared", len(strings.Fields(flatText(x))))
	}
	// no type at all, of constructors that all ask for one another
	none := api.Theory{Classes: []api.Class{{Name: "c"}}}
	for _, s := range names("t", 300) {
		none.Types = append(none.Types, api.TypeDecl{Name: s, Arity: 10})
	}
	if _, ok, e := Ground(none, nil, 5); ok || e != api.OK {
		t.Error(ok, e)
	}
}

func TestP11NewMemory(t *testing.T) {
	thy := orders()
	g, _ := Sign(thy)
	kept := orders()
	thy.Arities[5].Sorts[0][0], thy.Types[0].Name, thy.Classes[1].Supers[0] = "x", "x", "x"
	if l, _ := g.Args("pair", []string{"c"}); fmt.Sprint(l) != "[[c ord] [ord]]" || !g.Less([]string{"linorder"}, []string{"ord"}) {
		t.Error("a signature shares memory with its theory", l)
	}
	if x, _ := newGrounder(g).first(nil, 2); x.Name != "list" {
		t.Error("a signature shares memory with its theory", x)
	}
	thy = kept
	s := []string{"c"}
	n, _ := Normal(thy, s)
	m, _ := Meet(thy, s, s)
	a, _ := Args(thy, "pair", s)
	b, _ := Args(thy, "pair", s)
	n[0], m[0], a[0][0], a[1][0] = "x", "x", "x", "x"
	if s[0] != "c" || b[0][0] != "c" || thy.Arities[5].Sorts[0][0] != "c" || Check(thy) != api.OK {
		t.Error("shared memory")
	}
}
