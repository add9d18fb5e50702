package model

import (
	"fmt"
	"math"
	"slices"
	"strings"
	"testing"

	"triforium/api"
	"triforium/term"
	"triforium/theory"
)

// values returns an assignment of values.
func values(l ...Value) Assign { return Assign{Values: l} }

func TestP81Evaluate(t *testing.T) {
	thy, m := world1()
	for i, c := range []struct {
		t string
		n int
	}{
		{quantified("All", "T", equal("T", "#0", "#0")), 1}, {quantified("All", "T", equal("T", "#0", "a:T")), 0}, {quantified("Ex", "T", equal("T", "#0", "a:T")), 1}, {quantified("Ex", "T", "False:B"), 0}, {"(\\x:T . #0)", 2},
		{"True:B", 1}, {"False:B", 0}, {"Not:F(B, B)", 1}, {not("True:B"), 0}, {"And:F(B, F(B, B))", 8}, {"Or:F(B, F(B, B))", 14}, {"Implies:F(B, F(B, B))", 11}, {"imp:F(P, F(P, P))", 11}, {"Equal:F(B, F(B, B))", 9}, {"eq:F(T, F(T, P))", 9}, {"Trueprop:F(B, P)", 2}, {"protect:F(P, P)", 2},
		{"All:F(F(T, B), B)", 8}, {"all:F(F(u, P), P)", 2}, {"Ex:F(F(T, B), B)", 14}, {"The:F(F(T, B), T)", 4}, {"If:F(B, F(B, F(B, B)))", 202}, {"(If:F(B, F(T, F(T, T))) True:B)", 12}, {"((If:F(B, F(T, F(T, T))) False:B) a:T)", 2},
		{"(The:F(F(T, B), T) (\\x:T . " + equal("T", "#0", "a:T") + "))", 1}, {"(The:F(F(T, B), T) (\\x:T . True:B))", 0}, {"(The:F(F(T, B), T) (\\x:T . False:B))", 0}, {"(The:F(F(tree, B), tree) (\\x:tree . " + equal("tree", "#0", "((Leaf:F(B, F(T, tree)) True:B) a:T)") + "))", 4},
		{"(The:F(F(tree, B), tree) (\\x:tree . True:B))", 0}, {"a:T", 1}, {"f:F(T, T)", 1}, {"(f:F(T, T) a:T)", 0}, {"(f:F(T, T) (f:F(T, T) a:T))", 1},
		{"((Pair:F(T, F(B, pair(T, B))) a:T) False:B)", 2}, {"(Pair:F(T, F(T, pair(T, T))) a:T)", 14}, {"Pair:F(u, F(T, pair(u, T)))", 2}, {"Pair:F(T, F(u, pair(T, u)))", 2}, {"(fst:F(pair(T, B), T) ((Pair:F(T, F(B, pair(T, B))) a:T) False:B))", 1}, {"(snd:F(pair(T, B), B) ((Pair:F(T, F(B, pair(T, B))) a:T) False:B))", 0},
		{"fst:F(pair(T, T), T)", 12}, {"snd:F(pair(T, T), T)", 10}, {"((fst:F(pair(F(T, T), B), F(T, T)) ((Pair:F(F(T, T), F(B, pair(F(T, T), B))) f:F(T, T)) True:B)) a:T)", 0},
		{"None:option(T)", 0}, {"Some:F(T, option(T))", 7}, {"(Some:F(T, option(T)) a:T)", 2}, {"(get:F(option(T), T) None:option(T))", 0}, {"(get:F(option(T), T) (Some:F(T, option(T)) a:T))", 1}, {"get:F(option(T), T)", 4},
		{"(((choose:F(T, F(F(T, T), F(option(T), T))) a:T) f:F(T, T)) None:option(T))", 1}, {"(((choose:F(T, F(F(T, T), F(option(T), T))) a:T) f:F(T, T)) (Some:F(T, option(T)) a:T))", 0}, {"((choose:F(T, F(F(T, T), F(option(T), T))) a:T) f:F(T, T))", 3}, {"((split:F(F(T, F(B, B)), F(pair(T, B), B)) (\\x:T . (\\y:B . #0))) ((Pair:F(T, F(B, pair(T, B))) a:T) True:B))", 1},
		{"((\\x:T . (f:F(T, T) #0)) a:T)", 0}, {"(((\\x:T . (\\y:T . #1)) a:T) (f:F(T, T) a:T))", 1}, {"(((\\x:T . (\\y:T . #0)) a:T) (f:F(T, T) a:T))", 0}, {"(((\\x:T . f:F(T, T)) a:T) a:T)", 0}, {"(((\\x:F(T, T) . #0) f:F(T, T)) a:T)", 0}, {"((\\x:T . (\\y:T . #1)) a:T)", 3}, {"(\\x:T . (\\y:T . #1))", 12}, {"(((((\\x:T . (\\y:T . If:F(B, F(T, F(T, T))))) a:T) a:T) True:B) a:T)", 3},
		{"((((If:F(B, F(F(T, T), F(F(T, T), F(T, T)))) True:B) f:F(T, T)) (\\x:T . #0)) a:T)", 0}, {"((The:F(F(F(T, T), B), F(T, T)) (\\x:F(T, T) . " + equal("F(T, T)", "#0", "f:F(T, T)") + ")) a:T)", 0}, {"(all:F(F(T, P), P) (\\x:T . " + eq("T", "#0", "#0") + "))", 1},
	} {
		if n, e := Evaluate(thy, m, of(c.t), Assign{}); n != c.n || e != api.OK {
			t.Error(i, c.t, n, e)
		}
	}
}

func TestP81Defined(t *testing.T) {
	thy, m := world1()
	thy = extended(thy, nil, []string{"op F(?a.0, F(?a.0, ?a.0))"})
	thy = defined(thy, [2]string{"id", "(\\x:'a . #0)"}, [2]string{"twice", "(\\g:F('a, 'a) . (\\x:'a . (#1 (#1 #0))))"}, [2]string{"k", "(twice:F(F(T, T), F(T, T)) f:F(T, T))"}, [2]string{"const", "(\\x:'a . (\\y:'b . #1))"})
	for _, d := range [][2]string{{"B", "And:F(B, F(B, B))"}, {"option('a)", "(\\x:option('a) . (\\y:option('a) . (Some:F('a, option('a)) ((op:F('a, F('a, 'a)) (get:F(option('a), 'a) #1)) (get:F(option('a), 'a) #0)))))"}} {
		var e api.Errno
		thy, e = theory.Overload(thy, "T", "op", typ(d[0]), of(d[1]))
		if e != api.OK {
			t.Fatal(e)
		}
	}
	some := func(k, s string) string { return "(Some:F(" + k + ", option(" + k + ")) " + s + ")" }
	op := func(k, a, b string) string { return "((op:F(" + k + ", F(" + k + ", " + k + ")) " + a + ") " + b + ")" }
	for i, c := range []struct {
		t string
		n int
	}{
		{"id:F(T, T)", 2}, {"(id:F(T, T) a:T)", 1}, {"((id:F(F(T, T), F(T, T)) f:F(T, T)) a:T)", 0}, {"k:F(T, T)", 2}, {"(k:F(T, T) a:T)", 1}, {"((twice:F(F(T, T), F(T, T)) f:F(T, T)) a:T)", 1}, {"((const:F(T, F(B, T)) a:T) True:B)", 1}, {"(const:F(T, F(B, T)) a:T)", 3},
		{op("B", "True:B", "True:B"), 1}, {op("B", "True:B", "False:B"), 0}, {op("option(B)", some("B", "True:B"), some("B", "True:B")), 2}, {op("option(B)", some("B", "True:B"), "None:option(B)"), 1}, {op("option(option(B))", some("option(B)", some("B", "True:B")), some("option(B)", some("B", "True:B"))), 3},
		{op("T", "a:T", "a:T"), 0}, {"op:F(T, F(T, T))", 0}, {op("option(T)", some("T", "a:T"), some("T", "a:T")), 1}, // at other types it is the element 0
	} {
		if n, e := Evaluate(thy, m, of(c.t), Assign{}); n != c.n || e != api.OK {
			t.Error(i, c.t, n, e)
		}
	}
	// the sort of a definition's variable counts
	thy.Classes = []api.Class{{Name: "c"}}
	thy.Arities = []api.Arity{{Type: "bool", Class: "c"}, {Type: "option", Class: "c", Sorts: [][]string{{"c"}}}}
	thy = extended(thy, nil, []string{"pick F(?a.0, ?a.0)"})
	thy, e := theory.Overload(thy, "T", "pick", typ("option('a{c})"), of("(\\x:option('a{c}) . #0)"))
	if e != api.OK {
		t.Fatal(e)
	}
	for k, want := range map[string]int{"B": 1, "T": 0, "option(B)": 1, "option(T)": 0} {
		x := "(pick:F(option(" + k + "), option(" + k + ")) (Some:F(" + k + ", option(" + k + ")) some:" + k + "))"
		m.Meanings = m.Meanings[:11]
		n, e := Evaluate(defined(thy), m, term.Apply(api.Inst{}, of(strings.ReplaceAll(x, "some:"+k, "$s:"+k))), values(Value{"s", -1, 0}))
		if n != want || e != api.OK {
			t.Error(k, n, e)
		}
	}
	// a known constant that is defined, too, means what it is known for
	odd, e := theory.Extend(logic(), "T", api.Theory{Axioms: []api.Axiom{{Name: "d", Kind: api.Defining, Prop: of(eq("B", "True:B", "False:B"))}}})
	if n, e2 := Evaluate(odd, Model{}, of("True:B"), Assign{}); n != 1 || e != api.OK || e2 != api.OK {
		t.Error(n, e, e2)
	}
}

func TestP81EvaluateErrors(t *testing.T) {
	thy, m := world1()
	thy.Classes = []api.Class{{Name: "c"}}
	thy.Arities = []api.Arity{{Type: "bool", Class: "c"}}
	thy = defined(thy, [2]string{"lost", "(\\x:T . some:T)"}, [2]string{"lost2", "(lost:F(T, T) a:T)"})
	noU := m
	noU.Carriers = m.Carriers[:4]
	at := func(k string, index int) Assign {
		return Assign{Types: []api.TypeBind{{Name: "a", Index: index, To: typ(k)}}, Values: []Value{{"x", -1, 1}, {"x", 0, 1}}}
	}
	for i, c := range []struct {
		m Model
		t string
		a Assign
		n int
		e api.Errno
	}{
		{m, "$x:T", values(Value{"x", -1, 1}), 1, 0}, {m, "$x:T", values(Value{"x", 0, 1}), 0, ErrFree}, {m, "?x.0:T", values(Value{"x", -1, 1}), 0, ErrFree}, {m, "?x.7:T", values(Value{"x", 7, 1}), 1, 0}, {m, "$x:T", Assign{}, 0, ErrFree}, {m, "$x:T", values(Value{"y", -1, 1}), 0, ErrFree},
		{m, "$x:T", values(Value{"x", -1, 2}), 0, ErrFree}, {m, "$x:T", values(Value{"x", -1, -1}), 0, ErrFree}, {m, "$x:T", values(Value{"x", -1, 0}, Value{"x", -1, 9}), 0, 0}, {m, "$x:T", values(Value{"x", -1, 9}, Value{"x", -1, 0}), 0, ErrFree}, // the first entry counts
		{m, "$x:F(T, T)", values(Value{"x", -1, 3}), 3, 0}, {m, "$x:F(T, T)", values(Value{"x", -1, math.MaxInt}), 0, ErrFree},
		{m, "$x:'a", at("T", -1), 1, 0}, {m, "$x:'a", at("T", 0), 0, ErrFree}, {m, "$x:?a.0", at("T", 0), 1, 0}, {m, "?x.0:?a.3", at("T", 3), 1, 0}, {m, "$x:'a", at("u", -1), 0, ErrFree}, {noU, "$x:'a", at("u", -1), 0, ErrFree}, {m, "$x:'a", at("none", -1), 0, ErrFree}, {m, "$x:'a", at("'b", -1), 0, ErrFree}, {m, "$x:'a", at("F(T, ?b.0)", -1), 0, ErrFree}, {m, "$x:'a", at("option", -1), 0, ErrFree},
		{m, "$x:'a{c}", at("B", -1), 1, 0}, {m, "$x:'a{c}", at("T", -1), 0, ErrFree}, {m, "$x:'a", Assign{Types: []api.TypeBind{{Name: "a", Index: -1, To: typ("T")}, {Name: "a", Index: -1, To: typ("none")}}, Values: []Value{{"x", -1, 1}}}, 1, 0}, {m, "$x:'a", Assign{Types: []api.TypeBind{{Name: "a", Index: -1}}, Values: []Value{{"x", -1, 1}}}, 0, ErrFree},
		{noU, "(\\x:'a . a:T)", at("u", -1), 0, ErrFree}, {m, "(\\x:'a . a:T)", at("u", -1), 1, 0}, {m, "(\\x:'a . a:T)", at("option('b)", -1), 0, ErrFree}, {m, "(\\x:'b . a:T)", Assign{}, 0, ErrFree}, {m, "((\\x:'b . a:T) $x:'b)", Assign{Types: []api.TypeBind{{Name: "b", Index: -1, To: typ("tree")}}, Values: []Value{{"x", -1, 6}}}, 1, 0},
		{m, "some:T", Assign{}, 0, ErrModel}, {m, "lost:F(T, T)", Assign{}, 0, ErrModel}, {m, "lost2:T", Assign{}, 0, ErrModel}, {noU, "$x:u", Assign{}, 0, ErrModel}, {noU, "(\\x:option(u) . a:T)", Assign{}, 0, ErrModel}, {m, "none:T", Assign{}, 0, api.ErrMissing}, {m, "(a:T a:T)", Assign{}, 0, api.ErrType}, {m, "((lost:F(T, T) $x:T) a:T)", Assign{}, 0, api.ErrType},
		{m, "(lost:F(T, T) $x:T)", Assign{}, 0, ErrModel}, {Model{Ground: make([]api.Type, 1)}, "none:T", Assign{}, 0, ErrModel},
		// a value that is none is ahead of what is too large, and of too much work
		{m, "$x:F(F(F(T, T), B), B)", values(Value{"x", -1, 65535}), 0, api.ErrLarge}, {m, "$x:F(F(F(T, T), B), B)", values(Value{"x", -1, 65536}), 0, ErrFree}, {m, "$x:F(F(F(F(T, T), B), B), B)", values(Value{"x", -1, math.MaxInt}), 0, api.ErrLarge},
		{m, "((\\x:F(F(F(T, T), B), B) . a:T) $x:F(F(F(T, T), B), B))", values(Value{"x", -1, 1}), 0, api.ErrLarge},
	} {
		if n, e := Evaluate(thy, c.m, of(c.t), c.a); n != c.n || e != c.e {
			t.Error(i, c.t, n, e)
		}
	}
	if _, e := Evaluate(api.Theory{}, Model{Ground: make([]api.Type, 9)}, api.Term{}, Assign{}); e != api.ErrTheory {
		t.Error(e)
	}
}

// nested returns Abs within each other over types, and a body.
func nested(body string, l ...string) string {
	for _, k := range slices.Backward(l) {
		body = "(\\x:" + k + " . " + body + ")"
	}
	return body
}

func TestP81Work(t *testing.T) {
	thy, m := world1()
	thy = extended(thy, nil, []string{"star u"})
	m.Meanings = append(m.Meanings, Meaning{Name: "star", How: Table})
	thy = defined(thy, [2]string{"same", "(\\x:'a . #0)"}, [2]string{"both", two("And", "True:B", "False:B")}, [2]string{"twice", "(\\g:F('a, 'a) . (\\x:'a . (#1 (#1 #0))))"}, [2]string{"and", "And:F(B, F(B, B))"})
	choose := "choose:F(T, F(F(T, T), F(option(T), T)))"
	for i, c := range []struct {
		t    string
		work int
	}{
		// 1 for each term, and for each list of arguments that are missing
		{"True:B", 1}, {"a:T", 1}, {"f:F(T, T)", 1}, {"(f:F(T, T) a:T)", 2}, {two("And", "True:B", "True:B"), 3}, {"(And:F(B, F(B, B)) True:B)", 1 + 1 + 2}, {"And:F(B, F(B, B))", 1 + 4}, {"If:F(B, F(T, F(T, T)))", 1 + 8},
		{"((((If:F(B, F(F(T, T), F(F(T, T), F(T, T)))) True:B) f:F(T, T)) f:F(T, T)) a:T)", 5}, // takes three
		{"Pair:F(T, F(B, pair(T, B)))", 1 + 4}, {"(Pair:F(T, F(B, pair(T, B))) a:T)", 1 + 1 + 2}, {"None:option(T)", 1}, {"fst:F(pair(T, T), T)", 1 + 4}, {choose, 1 + 2*4*3}, {"(" + choose + " a:T)", 1 + 1 + 4*3}, {"((" + choose + " a:T) f:F(T, T))", 1 + 2 + 3},
		// abstractions
		{"(\\x:T . #0)", 1 + 2}, {nested("#0", "T", "tree"), 1 + 2*(1+7)}, {nested("(f:F(T, T) a:T)", "tree"), 1 + 7*2}, {nested("True:B", "F(F(T, T), F(T, T))"), 1 + 256}, {nested("star:u", "F(F(F(T, T), B), B)"), 1 + 4097},
		{"((\\x:T . #0) a:T)", 1 + 1 + 1}, {"(((\\x:T . (\\y:T . #1)) a:T) a:T)", 1 + 2 + 1}, {"((\\x:T . (\\y:T . #1)) a:T)", 1 + 1 + (1 + 2)}, {"(((\\x:T . f:F(T, T)) a:T) a:T)", 1 + 2 + 1}, {"(((\\x:F(T, T) . (\\y:T . (#1 (#1 #0)))) f:F(T, T)) a:T)", 1 + 2 + (1 + (1 + 1))},
		{"((\\x:T . Not:F(B, B)) a:T)", 1 + 1 + (1 + 2)}, {"(((\\x:T . Not:F(B, B)) a:T) True:B)", 1 + 2 + 1}, {"(((\\x:T . (And:F(B, F(B, B)) True:B)) a:T) True:B)", 1 + 2 + (1 + 1)},
		// definitions
		{"same:F(T, T)", 1 + (1 + 2)}, {"(same:F(T, T) a:T)", 1 + 1 + (1 + 1)}, {"((same:F(F(T, T), F(T, T)) f:F(T, T)) a:T)", 1 + 2 + (1 + 1)}, {"both:B", 1 + 3}, {"and:F(B, F(B, B))", 1 + (1 + 4)}, {"(and:F(B, F(B, B)) True:B)", 1 + 1 + (1 + 2)}, {two("and", "True:B", "True:B"), 1 + 2 + 1},
		{"((twice:F(F(T, T), F(T, T)) f:F(T, T)) a:T)", 1 + 2 + (1 + (1 + (1 + 1)))}, {"(twice:F(F(T, T), F(T, T)) f:F(T, T))", 1 + 1 + (1 + (1 + 2*(1+(1+1))))},
	} {
		w := newWorld(thy, m)
		p := planner{world: w}
		x := of(c.t)
		if _, e := term.Check(thy, x); e != api.OK {
			t.Fatal(i, c.t, e)
		}
		if n := p.plan(&x, scope{}, nil).work; n != c.work {
			t.Error(i, c.t, n, c.work)
		}
		if _, e := Evaluate(thy, m, x, Assign{}); (e == api.ErrLarge) != p.large || e != api.OK && e != api.ErrLarge {
			t.Error(i, c.t, e)
		}
	}
}

// working returns a term of the type bool with some work.
func working(n int) string {
	if n == 1 {
		return "True:B"
	}
	if n < 50 {
		return not(working(n - 1))
	}
	b := (n - 4) / 7
	return two("And", quantified("Ex", "tree", working(b)), working(n-3-7*b))
}

func TestP81Fuel(t *testing.T) {
	thy, m := world1()
	large := equal("F(F(F(T, T), B), B)", "$x:F(F(F(T, T), B), B)", "$x:F(F(F(T, T), B), B)")
	zero := values(Value{"x", -1, 0})
	for i, c := range []struct {
		t string
		e api.Errno
	}{
		{working(MaxWork), api.OK}, {working(MaxWork + 1), api.ErrFuel}, {two("And", working(MaxWork-4), large), api.ErrLarge}, {two("And", working(MaxWork-3), large), api.ErrFuel}, {two("And", large, working(MaxWork-3)), api.ErrFuel},
		{nested("True:B", "F(T, T)", "F(T, T)", "F(T, T)"), api.ErrLarge}, {nested("True:B", "F(F(T, T), B)", "F(F(T, T), B)", "F(F(T, T), B)", "F(F(T, T), B)"), api.ErrFuel},
		{quantified("All", "F(F(T, T), B)", "True:B"), api.ErrLarge}, {quantified("All", "pair(T, pair(T, option(T)))", "True:B"), api.OK}, {nested("True:B", "pair(T, pair(T, option(T)))"), api.OK}, {nested("True:B", "pair(T, option(tree))"), api.ErrLarge},
		{"All:F(F(F(T, T), B), B)", api.ErrLarge}, {"Equal:F(tree, F(tree, B))", api.ErrLarge}, {"Equal:F(option(T), F(option(T), B))", api.OK},
	} {
		if n, e := Evaluate(thy, m, of(c.t), zero); e != c.e || e != api.OK && n != 0 {
			t.Error(i, e, c.e)
		}
	}
	// only what is evaluated counts: not the head of an application
	if n, e := Evaluate(thy, m, of(equal("tree", "$t:tree", "$t:tree")), values(Value{"t", -1, 6})); n != 1 || e != api.OK {
		t.Error(n, e)
	}
	if n, e := Evaluate(thy, m, of("((\\x:tree . "+equal("tree", "#0", "#0")+") $t:tree)"), values(Value{"t", -1, 6})); n != 1 || e != api.OK {
		t.Error(n, e)
	}
	// a variable that is a head is evaluated
	if _, e := Evaluate(thy, m, of("($g:F(tree, F(tree, B)) $t:tree)"), values(Value{"t", -1, 6}, Value{"g", -1, 0})); e != api.ErrLarge {
		t.Error(e)
	}
	if _, e := Evaluate(thy, m, of("((\\x:F(tree, B) . (#0 $t:tree)) (\\y:tree . True:B))"), values(Value{"t", -1, 6})); e != api.OK {
		t.Error(e)
	}
	if _, e := Evaluate(thy, m, of("((\\x:F(tree, F(tree, B)) . True:B) $g:F(tree, F(tree, B)))"), values(Value{"g", -1, 0})); e != api.ErrLarge {
		t.Error(e)
	}
}

// overloaded returns a theory with definitions of a constant at types ("type" by a term).
func overloaded(t api.Theory, c string, l ...[2]string) api.Theory {
	for _, d := range l {
		var e api.Errno
		t, e = theory.Overload(t, "T", c, typ(d[0]), of(d[1]))
		if e != api.OK {
			panic(fmt.Sprint("no definition: ", d, e))
		}
	}
	return t
}

// Definitions may stand for very much that is evaluated.
func TestP81FuelOfDefinitions(t *testing.T) {
	l := [][2]string{{"c0", "True:B"}}
	works := []int{2}
	for i := range 15 {
		l = append(l, [2]string{fmt.Sprint("c", i+1), two("And", fmt.Sprint("c", i, ":B"), fmt.Sprint("c", i, ":B"))})
		works = append(works, 2+2*works[i])
	}
	thy := defined(logic(), l...)
	var term func(n int) string
	term = func(n int) string {
		if n == 1 {
			return "True:B"
		}
		k := len(works) - 1
		for k > 0 && works[k] > n-2 {
			k--
		}
		if works[k] > n-2 {
			return not(term(n - 1))
		}
		return two("And", fmt.Sprint("c", k, ":B"), term(n-1-works[k]))
	}
	for _, n := range []int{1, 2, 3, 4, 1000, MaxWork} {
		if v, e := Evaluate(thy, Model{}, of(term(n)), Assign{}); e != api.OK || v > 1 {
			t.Error(n, v, e)
		}
	}
	if _, e := Evaluate(thy, Model{}, of(term(MaxWork+1)), Assign{}); e != api.ErrFuel {
		t.Error(e)
	}
}

// Definitions may lead back to themselves by way of types, which may grow without end.
func TestP81Endless(t *testing.T) {
	thy, m := world1()
	thy = extended(thy, nil, []string{"op ?a.0"})
	circle := overloaded(thy, "op", [2]string{"T", "(get:F(option(T), T) op:option(T))"}, [2]string{"option('a)", "(Some:F('a, option('a)) op:'a)"})
	wide := "pair(option(option('a)), 'a)"
	growing := overloaded(thy, "op", [2]string{"T", "(get:F(option(T), T) op:option(T))"},
		[2]string{"option('a)", "(get:F(option(option('a)), option('a)) (fst:F(" + wide + ", option(option('a))) op:" + wide + "))"},
		[2]string{"pair('a, 'b)", "((Pair:F('a, F('b, pair('a, 'b))) op:'a) op:'b)"})
	for i, x := range []api.Theory{circle, growing} {
		for _, s := range []string{"op:T", "op:option(T)", nested("op:T", "u")} {
			if _, e := Evaluate(x, m, of(s), Assign{}); e != api.ErrFuel {
				t.Error(i, s, e)
			}
		}
		if n, e := Evaluate(x, m, of("op:B"), Assign{}); n != 0 || e != api.OK {
			t.Error(i, n, e)
		}
	}
	if n, e := Evaluate(circle, m, of("op:option(option(B))"), Assign{}); n != 2 || e != api.OK {
		t.Error(n, e)
	}
}
