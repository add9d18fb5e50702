package model

import (
	"fmt"
	"math"
	"slices"
	"strings"
	"testing"

	"triforium/api"
	"triforium/term"
	"triforium/theory"
	"triforium/types"
)

// full writes out abbreviations: B stands for bool, P for prop, T for t, and F(..) for the type of functions.
func full(s string) string {
	return strings.NewReplacer("Pair", "Pair", "Trueprop", "Trueprop", "True", "True", "The", "The", "B", "bool", "P", "prop", "T", "t", "F(", "fun(").Replace(s)
}

func typ(s string) api.Type {
	t, e := types.Read(full(s))
	if e != api.OK {
		panic("no type: " + s)
	}
	return t
}

func of(s string) api.Term {
	t, e := term.Read(full(s))
	if e != api.OK {
		panic(fmt.Sprint("no term: ", full(s), " ", e))
	}
	return t
}

func text(t api.Term) string {
	s, e := term.Text(t)
	if e != api.OK {
		return fmt.Sprint("error ", e)
	}
	return s
}

func imp(l ...string) string {
	s := l[len(l)-1]
	for _, a := range slices.Backward(l[:len(l)-1]) {
		s = "((imp:F(P, F(P, P)) " + a + ") " + s + ")"
	}
	return s
}

func tr(s string) string { return "(Trueprop:F(B, P) " + s + ")" }

func two(name, a, b string) string { return "((" + name + ":F(B, F(B, B)) " + a + ") " + b + ")" }

func not(a string) string { return "(Not:F(B, B) " + a + ")" }

func equal(t, a, b string) string {
	return fmt.Sprintf("((Equal:F(%s, F(%s, B)) %s) %s)", t, t, a, b)
}

func eq(t, a, b string) string { return fmt.Sprintf("((eq:F(%s, F(%s, P)) %s) %s)", t, t, a, b) }

func quantified(name, t, body string) string {
	return fmt.Sprintf("(%s:F(F(%s, B), B) (\\x:%s . %s))", name, t, t, body)
}

// extended returns a theory with more types, constants ("name type") and axioms ("name term"; "name = c type term" for a definition).
func extended(t api.Theory, kinds, consts []string, axioms ...[2]string) api.Theory {
	more := api.Theory{}
	for _, k := range kinds {
		d := api.TypeDecl{Name: k}
		fmt.Sscanf(k, "%s %d", &d.Name, &d.Arity)
		more.Types = append(more.Types, d)
	}
	for _, c := range consts {
		name, k, _ := strings.Cut(c, " ")
		more.Consts = append(more.Consts, api.ConstDecl{Name: name, Type: typ(k)})
	}
	for _, a := range axioms {
		more.Axioms = append(more.Axioms, api.Axiom{Name: a[0], Prop: of(a[1])})
	}
	out, e := theory.Extend(t, "T", more)
	if e != api.OK {
		panic(fmt.Sprint("no theory: ", e))
	}
	return out
}

// defined returns a theory in which constants are defined ("c" by a term).
func defined(t api.Theory, l ...[2]string) api.Theory {
	for _, d := range l {
		var e api.Errno
		t, e = theory.Define(t, "T", d[0], of(d[1]))
		if e != api.OK {
			panic(fmt.Sprint("no definition: ", d, e))
		}
	}
	return t
}

// logic is Pure with HOL's type and constants.
func logic() api.Theory {
	return extended(theory.Pure(), []string{"bool"}, []string{"Trueprop F(B, P)", "True B", "False B", "Not F(B, B)", "And F(B, F(B, B))", "Or F(B, F(B, B))", "Implies F(B, F(B, B))", "Equal F(?a.0, F(?a.0, B))",
		"All F(F(?a.0, B), B)", "Ex F(F(?a.0, B), B)", "The F(F(?a.0, B), ?a.0)", "If F(B, F(?a.0, F(?a.0, ?a.0)))"})
}

// holAxioms are those of HOL.
func holAxioms() [][2]string {
	p, q, r := "?P.0:B", "?Q.0:B", "?R.0:B"
	set := "?P.0:F(?a.0, B)"
	x, y := "?x.0:?a.0", "?y.0:?a.0"
	at := func(v string) string { return tr("(" + set + " " + v + ")") }
	all := func(body string) string { return "(all:F(F(?a.0, P), P) (\\x:?a.0 . " + body + "))" }
	ifs := func(c string) string { return "(((If:F(B, F(?a.0, F(?a.0, ?a.0))) " + c + ") " + x + ") " + y + ")" }
	return [][2]string{
		{"trueI", tr("True:B")}, {"falseE", imp(tr("False:B"), tr(p))}, {"notI", imp(imp(tr(p), tr("False:B")), tr(not(p)))}, {"notE", imp(tr(not(p)), tr(p), tr(q))},
		{"conjI", imp(tr(p), tr(q), tr(two("And", p, q)))}, {"conjunct1", imp(tr(two("And", p, q)), tr(p))}, {"conjunct2", imp(tr(two("And", p, q)), tr(q))},
		{"disjI1", imp(tr(p), tr(two("Or", p, q)))}, {"disjI2", imp(tr(q), tr(two("Or", p, q)))}, {"disjE", imp(tr(two("Or", p, q)), imp(tr(p), tr(r)), imp(tr(q), tr(r)), tr(r))},
		{"impI", imp(imp(tr(p), tr(q)), tr(two("Implies", p, q)))}, {"mp", imp(tr(two("Implies", p, q)), tr(p), tr(q))},
		{"allI", imp(all(at("#0")), tr("(All:F(F(?a.0, B), B) "+set+")"))}, {"spec", imp(tr("(All:F(F(?a.0, B), B) "+set+")"), at(x))}, {"exI", imp(at(x), tr("(Ex:F(F(?a.0, B), B) "+set+")"))},
		{"exE", imp(tr("(Ex:F(F(?a.0, B), B) "+set+")"), all(imp(at("#0"), tr(q))), tr(q))}, {"refl", tr(equal("?a.0", x, x))}, {"subst", imp(tr(equal("?a.0", x, y)), at(x), at(y))},
		{"ext", imp("(all:F(F(?a.0, P), P) (\\x:?a.0 . "+tr(equal("?b.0", "(?f.0:F(?a.0, ?b.0) #0)", "(?g.0:F(?a.0, ?b.0) #0)"))+"))", tr(equal("F(?a.0, ?b.0)", "?f.0:F(?a.0, ?b.0)", "?g.0:F(?a.0, ?b.0)")))},
		{"iffI", imp(imp(tr(p), tr(q)), imp(tr(q), tr(p)), tr(equal("B", p, q)))}, {"excluded_middle", tr(two("Or", p, not(p)))},
		{"the_eq", tr(equal("?a.0", "(The:F(F(?a.0, B), ?a.0) (\\x:?a.0 . "+equal("?a.0", "#0", "?u.0:?a.0")+"))", "?u.0:?a.0"))},
		{"if_true", imp(tr(p), tr(equal("?a.0", ifs(p), x)))}, {"if_false", imp(tr(not(p)), tr(equal("?a.0", ifs(p), y)))}, {"eq_reflection", imp(tr(equal("?a.0", x, y)), eq("?a.0", x, y))},
	}
}

// cases returns a carrier without parameters of some cases: the types of their fields, separated by "; ".
func cases(name string, l ...string) Carrier {
	c := Carrier{Name: name}
	for _, s := range l {
		var fields []api.Type
		for k := range strings.SplitSeq(s, "; ") {
			if k != "" {
				fields = append(fields, typ(k))
			}
		}
		c.Cases = append(c.Cases, fields)
	}
	return c
}

// points returns a carrier of n elements.
func points(name string, n int) Carrier { return cases(name, make([]string, n)...) }

// pairs returns the carrier of pairs.
func pairs() Carrier {
	c := cases("pair", "'a; 'b")
	c.Params = []string{"a", "b"}
	return c
}

// options returns the carrier of nothing or something.
func options() Carrier {
	c := cases("option", "", "'a")
	c.Params = []string{"a"}
	return c
}

// world1 has t, of 2 elements, pairs, options and trees, and constants of all kinds.
func world1() (api.Theory, Model) {
	thy := extended(logic(), []string{"t", "pair 2", "option 1", "tree 0", "u"}, []string{
		"a T", "f F(T, T)", "Pair F(?a.0, F(?b.0, pair(?a.0, ?b.0)))", "fst F(pair(?x.0, ?y.0), ?x.0)", "snd F(pair(?b.0, ?a.0), ?a.0)", "split F(F(?p.0, F(?q.0, ?r.0)), F(pair(?p.0, ?q.0), ?r.0))",
		"None option(?a.0)", "Some F(?a.0, option(?a.0))", "get F(option(?a.0), ?a.0)", "choose F(?r.0, F(F(?a.0, ?r.0), F(option(?a.0), ?r.0)))", "Leaf F(B, F(T, tree))", "some ?a.0"})
	m := Model{
		Carriers: []Carrier{points("t", 2), pairs(), options(), cases("tree", "", "bool; t", "t"), points("u", 1)},
		Meanings: []Meaning{{Name: "a", How: Table, Value: 1}, {Name: "f", How: Table, Value: 1}, {Name: "Pair", How: Maker, Type: "pair"}, {Name: "fst", How: Part, Type: "pair"}, {Name: "snd", How: Part, Type: "pair", Field: 1}, {Name: "split", How: Chooser, Type: "pair"},
			{Name: "None", How: Maker, Type: "option"}, {Name: "Some", How: Maker, Type: "option", Case: 1}, {Name: "get", How: Part, Type: "option", Case: 1}, {Name: "choose", How: Chooser, Type: "option"}, {Name: "Leaf", How: Maker, Type: "tree", Case: 1}},
		Ground: []api.Type{typ("B"), typ("T")},
	}
	return thy, m
}

func TestP81Known(t *testing.T) {
	if s := strings.Join(Known(), " "); s != "imp all eq protect Trueprop True False Not And Or Implies Equal All Ex The If" {
		t.Error(s)
	}
	l := Known()
	l[0] = "spoilt"
	if Known()[0] != "imp" {
		t.Error("not new")
	}
}

func TestP81Check(t *testing.T) {
	thy, right := world1()
	if e := Check(thy, right); e != api.OK {
		t.Fatal(e)
	}
	if e := Check(thy, Model{}); e != api.OK {
		t.Error(e)
	}
	bad := thy
	bad.Name = ""
	if e := Check(bad, Model{Ground: make([]api.Type, 9)}); e != api.ErrTheory {
		t.Error(e)
	}
	ground := func(l ...string) func(*Model) {
		return func(m *Model) {
			m.Ground = nil
			for _, s := range l {
				m.Ground = append(m.Ground, typ(s))
			}
		}
	}
	carrier := func(c Carrier) func(*Model) {
		return func(m *Model) { m.Carriers, m.Meanings, m.Ground = append(m.Carriers[:4:4], c), nil, nil }
	}
	fields := func(l ...string) func(*Model) { return carrier(cases("u", l...)) }
	meaning := func(i int, change func(*Meaning)) func(*Model) {
		return func(m *Model) { m.Meanings = slices.Clone(m.Meanings); change(&m.Meanings[i]) }
	}
	more := func(x Meaning) func(*Model) {
		return func(m *Model) { m.Meanings = append(slices.Clone(m.Meanings), x) }
	}
	wide := func(n int) string { return strings.Repeat("F(u, ", n/2) + "u" + strings.Repeat(")", n/2) }
	wideT := func(n int) string { return strings.ReplaceAll(wide(n), "u", "T") }
	params := func(l ...string) func(*Model) {
		c := cases("pair", "")
		c.Params = l
		return func(m *Model) { *m = Model{Carriers: []Carrier{c}} }
	}
	for i, c := range []struct {
		change func(*Model)
		ok     bool
	}{
		{fields(""), true}, {fields(make([]string, 20)...), true}, {fields(make([]string, 21)...), false}, {fields(), false}, {fields("B; B; B; B; B; B"), true}, {fields("B; B; B; B; B; B; B"), false}, {fields("", "B; B; B; B; B; B; B"), false},
		{carrier(points("none", 1)), false}, {carrier(points("t", 1)), false}, {carrier(points("fun", 1)), false}, {carrier(points("prop", 1)), false}, {carrier(points("bool", 1)), false}, {carrier(points("", 1)), false},
		{func(m *Model) { m.Carriers[1].Params = []string{"a"} }, false}, {func(m *Model) { m.Carriers[0].Params = []string{"a"} }, false}, {func(m *Model) { m.Carriers[1].Params = []string{"a", "a"} }, false}, {func(m *Model) { m.Carriers[1].Params = []string{"a", "c"} }, false},
		{params("a", "b"), true}, {params("a", ""), false}, {params("a", "1"), false}, {params("a", strings.Repeat("b", 40)), true}, {params("a", strings.Repeat("b", 41)), false}, {params("\xff", "b"), false},
		{fields("'a"), false}, {fields("?a.0"), false}, {fields("none"), false}, {fields("u"), false}, {fields("prop"), true}, {fields("option(option(tree))"), true}, {fields("option(u)"), false}, {fields("option"), false}, {fields("pair(T)"), false}, {fields("bool(bool)"), false}, {fields("F(T)"), false}, {fields("t(t)"), false},
		{carrier(Carrier{Name: "u", Cases: [][]api.Type{{{}}}}), false}, {carrier(Carrier{Name: "u", Cases: [][]api.Type{{{Op: api.TCon, Name: "bool", Index: 1}}}}), false}, {carrier(Carrier{Name: "u", Cases: [][]api.Type{{{Op: api.TCon, Name: "bool", Sort: []string{"c"}}}}}), false},
		{func(m *Model) { m.Carriers[2].Cases[1][0].Sort = []string{"c"} }, false}, {func(m *Model) { m.Carriers[2].Cases[1][0].Index = 1 }, false}, {func(m *Model) { m.Carriers[2].Cases[1][0].Op = api.TVar }, false}, {func(m *Model) { m.Carriers[2].Cases[1][0].Args = []api.Type{typ("B")} }, false},
		{fields("", wideT(49)), true}, {fields("option(" + wideT(49) + ")"), true}, {fields(wideT(51)), false},
		{ground(), true}, {ground("B", "T", "u", "P"), true}, {ground("B", "B", "B", "B"), true}, {ground("B", "T", "u", "P", "B"), false}, {ground("pair(B, F(T, T))"), true}, {ground("'a"), false}, {ground("?a.0"), false}, {ground("none"), false}, {ground("pair(B)"), false},
		{ground("F(pair(B, pair(B, T)), B)"), true}, {ground("F(F(T, pair(T, T)), B)"), false}, {ground("F(pair(T, pair(B, option(B))), B)"), true}, {ground("F(pair(T, pair(B, option(option(B)))), B)"), false},
		{ground(wide(49)), true}, {ground("option(" + wide(49) + ")"), true}, {ground(wide(51)), false}, {func(m *Model) { m.Ground = []api.Type{{}} }, false},
		{meaning(0, func(x *Meaning) { x.Value = 2 }), false}, {meaning(0, func(x *Meaning) { x.Value = -1 }), false}, {meaning(1, func(x *Meaning) { x.Value = 3 }), true}, {meaning(1, func(x *Meaning) { x.Value = 4 }), false}, {meaning(0, func(x *Meaning) { x.Type = "t" }), false}, {meaning(0, func(x *Meaning) { x.Case = 1 }), false}, {meaning(0, func(x *Meaning) { x.Field = 1 }), false},
		{meaning(0, func(x *Meaning) { x.Name = "None" }), false}, {meaning(0, func(x *Meaning) { x.Name = "none" }), false}, {meaning(0, func(x *Meaning) { x.Name = "f" }), false}, {meaning(0, func(x *Meaning) { x.Name = "True" }), false}, {meaning(0, func(x *Meaning) { x.Name = "protect" }), false}, {more(Meaning{Name: "a", How: Table}), false}, {more(Meaning{Name: "some", How: Table}), false},
		{meaning(0, func(x *Meaning) { x.How = 0 }), false}, {meaning(0, func(x *Meaning) { x.How = 5 }), false}, {meaning(2, func(x *Meaning) { x.How = 0 }), false}, {meaning(2, func(x *Meaning) { x.How = math.MinInt }), false},
		{meaning(2, func(x *Meaning) { x.Type = "option" }), false}, {meaning(2, func(x *Meaning) { x.Type = "" }), false}, {meaning(2, func(x *Meaning) { x.Case = 1 }), false}, {meaning(2, func(x *Meaning) { x.Case = -1 }), false}, {meaning(2, func(x *Meaning) { x.Field = 1 }), false}, {meaning(2, func(x *Meaning) { x.Value = 1 }), false},
		{meaning(6, func(x *Meaning) { x.Case = 1 }), false}, {meaning(7, func(x *Meaning) { x.Case = 0 }), false}, {meaning(3, func(x *Meaning) { x.Field = 1 }), false}, {meaning(4, func(x *Meaning) { x.Field = 0 }), false}, {meaning(4, func(x *Meaning) { x.Field = 2 }), false}, {meaning(4, func(x *Meaning) { x.Field = -1 }), false}, {meaning(8, func(x *Meaning) { x.Case = 0 }), false},
		{meaning(5, func(x *Meaning) { x.How = Part }), false}, {meaning(5, func(x *Meaning) { x.Case = 1 }), false}, {meaning(9, func(x *Meaning) { x.Case = 1 }), false}, {meaning(9, func(x *Meaning) { x.Field = 1 }), false}, {meaning(9, func(x *Meaning) { x.Value = 1 }), false}, {meaning(9, func(x *Meaning) { x.Type = "pair" }), false}, {meaning(10, func(x *Meaning) { x.Case = 2 }), false},
	} {
		_, m := world1()
		c.change(&m)
		want := api.OK
		if !c.ok {
			want = ErrModel
		}
		if e := Check(thy, m); e != want {
			t.Error(i, e, want)
		}
	}
}

// The types of meanings may differ in the names of variables alone.
func TestP81MeaningTypes(t *testing.T) {
	carriers := []Carrier{points("t", 2), pairs(), options()}
	for i, c := range []struct {
		typ string
		x   Meaning
		ok  bool
	}{
		{"F(?b.0, F(?a.0, pair(?b.0, ?a.0)))", Meaning{How: Maker, Type: "pair"}, true}, {"F(?b.0, F(?a.0, pair(?a.0, ?b.0)))", Meaning{How: Maker, Type: "pair"}, false}, {"F(?a.0, F(?a.0, pair(?a.0, ?a.0)))", Meaning{How: Maker, Type: "pair"}, false},
		{"F(T, F(?a.0, pair(T, ?a.0)))", Meaning{How: Maker, Type: "pair"}, false}, {"F(?b.0{c}, F(?a.0, pair(?b.0{c}, ?a.0)))", Meaning{How: Maker, Type: "pair"}, false}, {"F(?a.0, pair(?a.0, ?b.0))", Meaning{How: Maker, Type: "pair"}, false}, {"pair(?a.0, ?b.0)", Meaning{How: Maker, Type: "pair"}, false},
		{"option(?r.0)", Meaning{How: Maker, Type: "option"}, true}, {"option(T)", Meaning{How: Maker, Type: "option"}, false}, {"F(?a.0, option(?a.0))", Meaning{How: Maker, Type: "option", Case: 1}, true}, {"F(?a.0, option(?b.0))", Meaning{How: Maker, Type: "option", Case: 1}, false},
		{"F(?b.0, F(F(?a.0, ?b.0), F(option(?a.0), ?b.0)))", Meaning{How: Chooser, Type: "option"}, true}, {"F(?a.0, F(F(?a.0, ?a.0), F(option(?a.0), ?a.0)))", Meaning{How: Chooser, Type: "option"}, false}, {"F(F(?a.0, ?b.0), F(?b.0, F(option(?a.0), ?b.0)))", Meaning{How: Chooser, Type: "option"}, false}, {"F(T, F(F(?a.0, T), F(option(?a.0), T)))", Meaning{How: Chooser, Type: "option"}, false},
		{"F(?r.0, F(?r.0, F(T, ?r.0)))", Meaning{How: Chooser, Type: "t"}, true}, {"F(?r.0, F(T, ?r.0))", Meaning{How: Chooser, Type: "t"}, false}, {"F(?r.0, F(?s.0, F(T, ?r.0)))", Meaning{How: Chooser, Type: "t"}, false},
		{"T", Meaning{How: Maker, Type: "t", Case: 1}, true}, {"T", Meaning{How: Maker, Type: "t", Case: 2}, false}, {"T", Meaning{How: Part, Type: "t"}, false}, {"T", Meaning{How: Table, Value: 1}, true}, {"option(T)", Meaning{How: Table, Value: 2}, true}, {"option(T)", Meaning{How: Table, Value: 3}, false}, {"option(?a.0)", Meaning{How: Table}, false},
		{"u", Meaning{How: Table}, false}, {"F(F(T, pair(T, T)), B)", Meaning{How: Table}, false}, {"F(F(T, F(T, T)), B)", Meaning{How: Table}, false}, {"F(pair(T, pair(T, F(T, B))), T)", Meaning{How: Table}, false}, {"F(pair(T, pair(T, option(T))), T)", Meaning{How: Table, Value: 4095}, true},
	} {
		thy := extended(logic(), []string{"t", "pair 2", "option 1", "u"}, nil)
		thy.Classes = []api.Class{{Name: "c"}}
		thy = extended(thy, nil, []string{"k " + c.typ})
		c.x.Name = "k"
		want := api.OK
		if !c.ok {
			want = ErrModel
		}
		if e := Check(thy, Model{Carriers: carriers, Meanings: []Meaning{c.x}}); e != want {
			t.Error(i, c.typ, e)
		}
	}
	// what is defined has no other meaning
	thy := defined(extended(logic(), []string{"t"}, []string{"op ?a.0"}), [2]string{"k", "True:B"})
	thy, e := theory.Overload(thy, "T", "op", typ("B"), of("False:B"))
	for _, name := range []string{"k", "op", "True"} {
		if e2 := Check(thy, Model{Carriers: carriers[:1], Meanings: []Meaning{{Name: name, How: Table}}}); e != api.OK || e2 != ErrModel {
			t.Error(name, e, e2)
		}
	}
	// bool has to be without arguments
	odd := extended(theory.Pure(), []string{"bool 1", "t"}, nil)
	for i, m := range []Model{{Ground: []api.Type{typ("B")}}, {Carriers: []Carrier{{Name: "bool", Params: []string{"a"}, Cases: make([][]api.Type, 1)}}}, {Carriers: []Carrier{cases("t", "bool(prop)")}}, {Carriers: []Carrier{cases("t", "bool")}}} {
		if e := Check(odd, m); e != ErrModel {
			t.Error(i, e)
		}
	}
	if _, e := Size(odd, Model{}, typ("bool(P)")); e != ErrModel {
		t.Error(e)
	}
	// a known name with another type is not known
	other := extended(theory.Pure(), []string{"bool"}, []string{"True F(B, B)", "All F(F(?b.0, B), B)"})
	if e := Check(other, Model{Meanings: []Meaning{{Name: "True", How: Table, Value: 2}}}); e != api.OK {
		t.Error(e)
	}
	if _, e := Evaluate(other, Model{}, of("(All:F(F(B, B), B) (\\x:B . #0))"), Assign{}); e != ErrModel {
		t.Error(e)
	}
}

func TestP81Size(t *testing.T) {
	thy, m := world1()
	for i, c := range []struct {
		t string
		n int
		e api.Errno
	}{
		{"P", 2, 0}, {"B", 2, 0}, {"T", 2, 0}, {"u", 1, 0}, {"tree", 1 + 4 + 2, 0}, {"pair(T, option(T))", 6, 0}, {"F(T, T)", 4, 0}, {"F(u, tree)", 7, 0}, {"F(tree, u)", 1, 0}, {"F(F(T, T), B)", 16, 0}, {"option(option(option(u)))", 4, 0},
		{"F(pair(T, pair(T, option(T))), B)", 4096, 0}, {"F(F(F(T, T), B), B)", 0, api.ErrLarge}, {"F(pair(T, pair(F(T, T), F(T, T))), F(T, T))", 0, api.ErrLarge}, {"F(F(F(F(F(T, T), B), T), B), u)", 1, 0}, {"pair(F(F(F(T, T), F(T, T)), tree), u)", 0, api.ErrLarge},
		{"'a", 0, ErrFree}, {"?a.0", 0, ErrFree}, {"F(F(F(T, T), B), 'a)", 0, ErrFree}, {"option('a{c})", 0, api.ErrMissing}, {"none", 0, api.ErrMissing}, {"pair('a)", 0, api.ErrCount},
	} {
		if n, e := Size(thy, m, typ(c.t)); n != c.n || e != c.e {
			t.Error(i, c.t, n, e)
		}
	}
	less := m
	less.Carriers = m.Carriers[:4]
	for i, c := range []struct {
		thy api.Theory
		m   Model
		t   api.Type
		e   api.Errno
	}{
		{api.Theory{}, Model{Ground: make([]api.Type, 9)}, api.Type{}, api.ErrTheory}, {thy, Model{Ground: make([]api.Type, 9)}, api.Type{}, ErrModel}, {thy, less, api.Type{}, api.ErrForm}, {thy, less, typ("F('a, u)"), ErrModel}, {thy, m, typ("F('a, u)"), ErrFree},
		{thy, Model{}, typ("F(T, 'a)"), ErrModel}, {thy, Model{}, typ("F(F(F(B, B), B), F(F(B, B), F(B, P)))"), api.ErrLarge},
	} {
		if n, e := Size(c.thy, c.m, c.t); n != 0 || e != c.e {
			t.Error(i, n, e)
		}
	}
}

// Carriers may refer to others so often that no type is ever written out.
func TestP81DeepCarriers(t *testing.T) {
	var names []string
	for i := range 100 {
		names = append(names, fmt.Sprint("k", i))
	}
	thy := extended(theory.Pure(), names, nil)
	m := Model{Carriers: []Carrier{points("k0", 1)}}
	for i := range 99 {
		m.Carriers = append(m.Carriers, cases(names[i+1], names[i]+"; "+names[i]+"; "+names[i]))
	}
	if n, e := Size(thy, m, typ("k99")); n != 1 || e != api.OK {
		t.Error(n, e)
	}
	m.Carriers[0] = points("k0", 2)
	if n, e := Size(thy, m, typ("k2")); n != 512 || e != api.OK {
		t.Error(n, e)
	}
	if _, e := Size(thy, m, typ("k99")); e != api.ErrLarge {
		t.Error(e)
	}
}

func TestP81Elements(t *testing.T) {
	thy, m := world1()
	k, fields, e := Element(thy, m, typ("pair(T, B)"), 1)
	if k != 0 || !slices.Equal(fields, []int{0, 1}) || e != api.OK {
		t.Error(k, fields, e)
	}
	for i, c := range []struct {
		t    string
		n, k int
		l    []int
		e    api.Errno
	}{
		{"tree", 0, 0, nil, 0}, {"tree", 1, 1, []int{0, 0}, 0}, {"tree", 2, 1, []int{0, 1}, 0}, {"tree", 3, 1, []int{1, 0}, 0}, {"tree", 4, 1, []int{1, 1}, 0}, {"tree", 5, 2, []int{0}, 0}, {"tree", 6, 2, []int{1}, 0}, {"tree", 7, 0, nil, api.ErrRange}, {"tree", -1, 0, nil, api.ErrRange}, {"tree", math.MaxInt, 0, nil, api.ErrRange},
		{"t", 1, 1, nil, 0}, {"option(tree)", 5, 1, []int{4}, 0}, {"pair(option(T), tree)", 16, 0, []int{2, 2}, 0}, {"B", 0, 0, nil, ErrModel}, {"P", 9, 0, nil, ErrModel}, {"F(T, T)", 0, 0, nil, ErrModel}, {"'a", -1, 0, nil, ErrFree}, {"pair(F(F(F(T, T), B), B), T)", 0, 0, nil, api.ErrLarge}, {"F(F(F(T, T), B), B)", 0, 0, nil, api.ErrLarge}, {"none", 0, 0, nil, api.ErrMissing},
	} {
		k, l, e := Element(thy, m, typ(c.t), c.n)
		if k != c.k || !slices.Equal(l, c.l) || e != c.e {
			t.Error(i, c.t, k, l, e)
		}
		if c.e != api.OK && c.e != api.ErrRange {
			if n, e := Make(thy, m, typ(c.t), c.n, nil); n != 0 || e != c.e {
				t.Error(i, n, e)
			}
			continue
		}
		if n, e := Make(thy, m, typ(c.t), c.k, c.l); c.e == api.OK && (n != c.n || e != api.OK) {
			t.Error(i, n, e)
		}
	}
	for i, c := range []struct {
		k int
		l []int
	}{{-1, nil}, {3, nil}, {math.MaxInt, nil}, {0, []int{0}}, {1, nil}, {1, []int{0}}, {1, []int{0, 0, 0}}, {1, []int{2, 0}}, {1, []int{0, -1}}, {1, []int{0, 2}}, {2, []int{math.MinInt}}, {2, []int{math.MaxInt}}} {
		if n, e := Make(thy, m, typ("tree"), c.k, c.l); n != 0 || e != api.ErrRange {
			t.Error(i, n, e)
		}
	}
	if _, _, e := Element(thy, Model{Meanings: make([]Meaning, 1)}, typ("'a"), 0); e != ErrModel {
		t.Error(e)
	}
	if _, e := Make(api.Theory{}, m, typ("'a"), 0, nil); e != api.ErrTheory {
		t.Error(e)
	}
}

func TestP81Call(t *testing.T) {
	thy, m := world1()
	for i, c := range []struct {
		a, b    string
		f, x, n int
		e       api.Errno
	}{
		{"T", "T", 2, 0, 0, 0}, {"T", "T", 2, 1, 1, 0}, {"T", "T", 1, 0, 1, 0}, {"T", "tree", 48, 0, 6, 0}, {"T", "tree", 47, 1, 6, 0}, {"u", "tree", 5, 0, 5, 0}, {"tree", "u", 0, 6, 0, 0}, {"F(F(F(T, T), T), T)", "u", 0, 5, 0, api.ErrLarge},
		{"T", "T", 4, 0, 0, api.ErrRange}, {"T", "T", -1, 0, 0, api.ErrRange}, {"T", "T", 0, 2, 0, api.ErrRange}, {"T", "T", 0, -1, 0, api.ErrRange}, {"T", "T", math.MaxInt, math.MinInt, 0, api.ErrRange}, {"tree", "u", 1, 0, 0, api.ErrRange},
		{"tree", "tree", 0, 0, 0, api.ErrLarge}, {"'a", "none", 0, 0, 0, ErrFree}, {"none", "'a", 0, 0, 0, api.ErrMissing}, {"T", "'a", 9, 9, 0, ErrFree}, {"T", "F(F(F(T, T), B), B)", 0, 0, 0, api.ErrLarge},
	} {
		if n, e := Call(thy, m, typ(c.a), typ(c.b), c.f, c.x); n != c.n || e != c.e {
			t.Error(i, n, e)
		}
	}
	// the type of functions may be too large to be one of a theory
	wide := typ("u")
	for range 13 {
		wide = types.Fun(wide, wide)
	}
	if _, e := Call(thy, m, wide, wide, 0, 0); e != api.ErrCount {
		t.Error(e)
	}
	if _, e := Call(thy, Model{}, typ("T"), typ("none"), 0, 0); e != ErrModel {
		t.Error(e)
	}
}
