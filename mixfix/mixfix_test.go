package mixfix

import (
	"fmt"
	"math"
	"slices"
	"strings"
	"testing"

	"triforium/api"
	"triforium/grammar"
	"triforium/infer"
	"triforium/sort"
	"triforium/term"
	"triforium/theory"
	"triforium/token"
	"triforium/types"
)

func TestP161Check(t *testing.T) {
	for i, c := range []struct {
		n  Notation
		ok bool
	}{
		{fix("imp", Infixr, 1, "==>"), true}, {Notation{}, false}, {fix("", Infix, 0, "+"), false}, {fix("1", Infix, 0, "+"), false}, {fix("a..b", Infix, 0, "+"), true}, {fix("a", 0, 0, "+"), false}, {fix("a", 6, 0, "+"), false}, {fix("a", math.MinInt, 0, "+"), false},
		{fix("a", Infix, 999, "+"), true}, {fix("a", Infix, 1000, "+"), false}, {fix("a", Infixl, 1000, "+"), false}, {fix("a", Infixr, 1000, "+"), false}, {fix("a", Infixr, -1, "+"), false}, {fix("a", Binder, 1000, "+"), true}, {fix("a", Binder, 1001, "+"), false}, {fix("a", Binder, 0, ""), false}, {fix("a", Infix, 0, ""), false}, {fix("a", Infix, 0, "a b"), false}, {fix("a", Infix, 0, "_"), true}, {fix("a", Infix, 0, `\<and>`), true}, {fix("a", Infix, 0, `\<open>`), false}, {fix("a", Infix, 0, strings.Repeat("a", 41)), false},
		{Notation{"a", Infix, []string{"+", "-"}, nil, 0}, false}, {Notation{"a", Infix, nil, nil, 0}, false}, {Notation{"a", Infix, []string{"+"}, []int{0}, 0}, false}, {Notation{"a", Binder, []string{"+"}, []int{0}, 0}, false},
		{mix("a", 0, "f"), true}, {mix("a", 1000, ""), false}, {mix("a", 1000, "_", 0), false}, {mix("a", 1000, "_+", 0), true}, {mix("a", 1000, "+_", 1000), true}, {mix("a", 1000, "+_", 1001), false}, {mix("a", 1000, "+_", -1), false}, {mix("a", 1001, "+_", 0), false}, {mix("a", 0, "+_"), false}, {mix("a", 0, "+", 0), false}, {mix("a", 0, "_+_", 0, 0), true}, {mix("a", 0, "__+", 0, 0), true}, {mix("a", 0, "_++_", 0, 0), true}, {mix("a", 0, "_+(_", 0, 0), false},
		{mix("a", 0, strings.Repeat("+_", 10), slices.Repeat([]int{5}, 10)...), true}, {mix("a", 0, strings.Repeat("+_", 11), slices.Repeat([]int{5}, 11)...), false}, {Notation{"a", Mixfix, nil, nil, 0}, false},
	} {
		want := ErrNotation
		if c.ok {
			want = api.OK
		}
		if e := Check([]Notation{fix("b", Infix, 5, "-"), c.n}); e != want {
			t.Error(i, e)
		}
	}
	a, b := fix("a", Infix, 5, "+"), mix("a", 5, "+_", 7)
	for i, c := range []struct {
		l []Notation
		e api.Errno
	}{
		{nil, api.OK}, {[]Notation{a, b, fix("a", Infixl, 5, "+"), fix("a", Infix, 6, "+"), fix("b", Infix, 5, "+"), fix("a", Infix, 5, "-"), mix("a", 5, "+_", 8)}, api.OK}, {[]Notation{a, b, b, {}}, api.ErrDuplicate}, {[]Notation{a, {}, a}, ErrNotation}, {[]Notation{{}, {}}, ErrNotation},
	} {
		if e := Check(c.l); e != c.e {
			t.Error(i, e)
		}
	}
	var many []Notation
	for i := range 200 {
		many = append(many, mix("a", i, "_"+fmt.Sprint("w", 2*i)+"_"+fmt.Sprint("w", 2*i+1), 0, 0))
	}
	for i := range 5 { // 9 words are those of terms
		many[i].Words = []string{"", "w0", "w1"}
		many[i].Prios[1] = i
	}
	if n := len(Keywords(many)); n != 401 || Check(many) != api.ErrCount {
		t.Error(n, Check(many))
	}
	many[5].Words[1] = "w0"
	if e := Check(many); e != api.OK {
		t.Error(e)
	}
	if e := Check(append(many, Notation{})); e != api.ErrCount {
		t.Error(e)
	}
}

func TestP161Keywords(t *testing.T) {
	if s := strings.Join(Keywords(nil), " "); s != "% ( ) , . :: => { }" {
		t.Error(s)
	}
	if s := strings.Join(Keywords([]Notation{{Kind: 9, Words: []string{"", "b c", "%", "a", "\xff"}}, {Words: []string{"a", "!!"}}}), " "); s != "!! % ( ) , . :: => a b c { } \xff" {
		t.Error(s)
	}
	if l := Pure(); len(l) != 3 || fmt.Sprint(l) != "[{imp 4 [==>] [] 1} {all 5 [!!] [] 0} {eq 2 [==] [] 2}]" || Check(l) != api.OK {
		t.Error(l)
	}
}

func TestP161Grammar(t *testing.T) {
	g, e := Grammar(nil)
	var l []string
	for _, p := range g {
		l = append(l, showProd(p))
	}
	if s := strings.Join(l, "|"); e != api.OK || s != table {
		t.Error(s)
	}
	g, e = Grammar([]Notation{mix("if", 10, "if_then_else_", 0, 1, 10), fix("a", Infix, 7, "+"), fix("b", Infixl, 0, "-"), fix("c", Infixr, 999, "*"), fix("d", Binder, 5, "ALL"), mix("e", 1000, "e"), mix("f", 3, "__+_", 4, 5, 6)})
	l = nil
	for _, p := range g[26:] {
		l = append(l, showProd(p))
	}
	if s := strings.Join(l, "|"); e != api.OK || s != "term 10 if `if` term:0 `then` term:1 `else` term:10|term 7 a term:8 `+` term:8|term 0 b term:0 `-` term:1|term 999 c term:1000 `*` term:999|term 5 d `ALL` idts:0 `.` term:5|term 1000 e `e`|term 3 f term:4 term:5 `+` term:6" {
		t.Error(s, e)
	}
	if g, e := Grammar([]Notation{{}}); e != ErrNotation || g != nil {
		t.Error(e)
	}
}

func TestP161Readings(t *testing.T) {
	for i, c := range []struct{ text, want string }{
		{"x", "$x"}, {"a.b", "$a.b"}, {"?x", "?x.0"}, {"?x.12", "?x.12"}, {"?x.1000000", "?x.1000000"}, {"((x))", "$x"}, {"f x y", "($f $x $y)"}, {"f (x y)", "($f ($x $y))"}, {"% x. x", "(\\x . #0)"}, {"% x y x. x y z", "(\\x . (\\y . (\\x . (#0 #1 $z))))"}, {"% x (y::nat) z. x y z", "(\\x . (\\y:nat . (\\z . (#2 #1 #0))))"}, {"f (% x. x x) x", "($f (\\x . (#0 #0)) $x)"}, {"% a.b. a.b", "(\\a.b . #0)"},
		{"x::nat", "[$x :nat]"}, {"f x :: nat", "[($f $x) :nat]"}, {"f (x::nat)", "($f [$x :nat])"}, {"% x. x :: nat", "(\\x . [#0 :nat])"}, {"(x::nat)::nat", "[[$x :nat] :nat]"}, {"x == y :: prop", "(eq $x [$y :prop])"}, {"x ==> y :: prop", "(imp $x [$y :prop])"}, {"x + y :: nat", "[(plus $x $y) :nat]"}, {"(x == y) :: prop", "[(eq $x $y) :prop]"}, {"x == (y :: prop)", "(eq $x [$y :prop])"},
		{"x :: 'a", "[$x :'a]"}, {"x :: 'a::c", "[$x :'a{c}]"}, {"x :: 'a::{}", "[$x :'a]"}, {"x :: 'a::{d,c,d}", "[$x :'a{c,d}]"}, {"x :: ?'a", "[$x :?a.0]"}, {"x :: ?'a.3::{c}", "[$x :?a.3{c}]"}, {"x :: 'a::c list", "[$x :list('a{c})]"}, {"x :: 'a list set", "[$x :set(list('a))]"}, {"x :: ('a, nat) pair list", "[$x :list(pair('a, nat))]"}, {"x :: (nat, nat, nat) t", "[$x :t(nat, nat, nat)]"}, {"x :: ('a) list", "[$x :list('a)]"}, {"x :: nat => 'a => nat", "[$x :fun(nat, fun('a, nat))]"}, {"x :: (nat => nat) => nat list", "[$x :fun(fun(nat, nat), list(nat))]"}, {"x :: nat => nat list", "[$x :fun(nat, list(nat))]"}, {"x :: (nat => nat) list", "[$x :list(fun(nat, nat))]"}, {"x :: a.b", "[$x :a.b]"},
		{"A ==> B ==> C", "(imp $A (imp $B $C))"}, {"!!x. x == x ==> A", "(all (\\x . (imp (eq #0 #0) $A)))"}, {"!!x (y::nat). x", "(all (\\x . (all (\\y:nat . #1))))"}, {"|- A --> ~B & C | D", "(Trueprop (Implies $A (Or (And (Not $B) $C) $D)))"}, {"~~A", ""}, {"~ ~ A", "(Not (Not $A))"}, {"a + b + c", "(plus (plus $a $b) $c)"}, {"a = b = c", ""}, {"NIL", "nil"}, {"if A then if B then x else y", "(if $A (when $B $x) $y) ; (when $A (if $B $x $y))"}, {"if A then (if B then x) else y", "(if $A (when $B $x) $y)"}, {"ALL x. EX y. x = y", "(All (\\x . (Ex (\\y . (Equal #1 #0)))))"}, {"f (ALL x. x) + y", "(plus ($f (All (\\x . #0))) $y)"}, {"(* comment *) x (* y *)", "$x"},
	} {
		l, at, e := Readings(signs(), c.text, 100)
		if c.want == "" {
			if e != api.ErrText || l != nil {
				t.Error(i, raws(l), e)
			}
			continue
		}
		if raws(l) != c.want || at != 0 || e != api.OK {
			t.Error(i, c.text, raws(l), at, e)
		}
	}
}

func TestP161ReadingsErrors(t *testing.T) {
	long := strings.Repeat("x", 40)
	for i, c := range []struct {
		l    []Notation
		text string
		most int
		at   int
		e    api.Errno
	}{
		{[]Notation{{}}, "`", 0, 0, ErrNotation}, {nil, "`", 0, 0, api.ErrRange}, {nil, "`", 101, 0, api.ErrRange}, {nil, "`", -1, 0, api.ErrRange}, {nil, "x `", 100, 2, token.ErrByte}, {nil, `x "`, 1, 2, token.ErrString}, {nil, " (* ", 1, 1, token.ErrComment}, {nil, strings.Repeat(" ", 40001), 1, 0, api.ErrLarge}, {nil, strings.Repeat("x ", 201), 1, 0, api.ErrCount}, {nil, strings.Repeat("x ", 200), 1, 0, api.OK}, {nil, strings.Repeat("x ", 200) + long + "x", 1, 0, api.ErrCount},
		{nil, long, 1, 0, api.OK}, {nil, "x " + long + "x", 1, 2, api.ErrText}, {nil, ") " + long + "x", 1, 2, api.ErrText}, {nil, "a." + long[2:], 1, 0, api.OK}, {nil, "a." + long[1:], 1, 0, api.ErrText}, {nil, "?" + long, 1, 0, api.OK}, {nil, "?" + long + "x", 1, 0, api.ErrText}, {nil, "?" + long + ".1000000", 1, 0, api.OK}, {nil, "x ?x.1000001", 1, 2, api.ErrText}, {nil, "x ?x.0", 1, 0, api.OK}, {nil, "x ?x.00", 1, 2, api.ErrText}, {nil, "x ?x.01", 1, 2, api.ErrText}, {nil, "x ?x.10000000", 1, 2, api.ErrText}, {nil, "x ?x.0000000000000000000000001", 1, 2, api.ErrText}, {nil, "x ?x.99999999999999999999999999", 1, 2, api.ErrText},
		{nil, "x :: '" + long, 1, 0, api.OK}, {nil, "x :: '" + long + "x", 1, 5, api.ErrText}, {nil, "x :: ?'" + long + ".7", 1, 0, api.OK}, {nil, "x :: ?'" + long + "x", 1, 5, api.ErrText}, {nil, "x :: ?'x.1000001", 1, 5, api.ErrText}, {nil, "x :: ?'x.07", 1, 5, api.ErrText}, {nil, strings.Repeat("1", 41), 1, 0, api.ErrText}, {nil, `"` + long + `x"`, 1, 0, api.ErrText},
		{nil, "", 1, 0, api.ErrText}, {nil, "  ", 1, 2, api.ErrText}, {nil, "x )", 1, 2, api.ErrText}, {nil, "( x", 1, 3, api.ErrText}, {nil, "% x x ", 1, 6, api.ErrText}, {nil, "x 1 y", 1, 2, api.ErrText}, {nil, "x :: 'a 'b", 1, 8, api.ErrText}, {nil, "x == y", 1, 2, api.ErrText}, {Pure(), "x == y == z", 1, 7, api.ErrText}, {Pure(), "x ==> ", 1, 6, api.ErrText}, {Pure(), "!!x y", 1, 5, api.ErrText}, {nil, "% x :: nat. x", 1, 4, api.ErrText}, {nil, "( * x", 1, 2, api.ErrText}, {nil, "x :: (nat, nat)", 1, 15, api.ErrText}, {nil, "x :: 'a :: {", 1, 12, api.ErrText},
	} {
		l, at, e := Readings(c.l, c.text, c.most)
		if at != c.at || e != c.e || e != api.OK && l != nil {
			t.Errorf("%d %.30q %d %d", i, c.text, at, e)
		}
	}
	// the first trees, each reading once
	l := []Notation{mix("a", 9, "[_]", 9), mix("b", 9, "[_]", 9), mix("a", 8, "[_]", 8)}
	for most, want := range map[int]string{1: "(a (a $x))", 2: "(a (a $x)) ; (a (b $x))", 3: "(a (a $x)) ; (a (b $x))", 4: "(a (a $x)) ; (a (b $x)) ; (b (a $x))", 100: "(a (a $x)) ; (a (b $x)) ; (b (a $x)) ; (b (b $x))"} {
		if got, _, e := Readings(l, "[ [ x ] ]", most); most != 3 && (e != api.OK || len(got) > most) {
			t.Error(most, raws(got), want, e)
		}
	}
	if got, _, _ := Readings(l, "[x]", 100); raws(got) != "(a $x) ; (b $x)" {
		t.Error(raws(got))
	}
	if got, _, _ := Readings(l, "[x]", 2); raws(got) != "(a $x) ; (b $x)" {
		t.Error(raws(got))
	}
	if got, _, _ := Readings([]Notation{l[0], l[2]}, "[x]", 2); raws(got) != "(a $x)" {
		t.Error(raws(got))
	}
}

func TestP161Read(t *testing.T) {
	thy := logic()
	for i, c := range []struct {
		known, text, want, out string
		e                      api.Errno
	}{
		{"", "|- A --> A", "", "(Trueprop:fun(bool, prop) (Implies:fun(bool, fun(bool, bool)) $A:bool $A:bool))", api.OK}, {"", "zero", "", "zero:nat", api.OK}, {"zero:bool", "zero", "", "$zero:bool", api.OK}, {"", "% zero. zero", "", "(\\zero:'a . #0)", api.OK}, {"", "% x. zero", "", "(\\x:'a . zero:nat)", api.OK}, {"", "x", "nat", "$x:nat", api.OK}, {"", "x + true", "", "(plus:fun(nat, fun(nat, nat)) $x:nat $true:nat)", api.OK}, {"", "?zero", "nat", "?zero.0:nat", api.OK}, {"x:nat", "x = y", "", "(Equal:fun(nat, fun(nat, bool)) $x:nat $y:nat)", api.OK},
		{"", "if A then if B then x else y", "", "", infer.ErrAmbiguous}, {"", "zero = NIL", "", "", api.ErrType}, {"", "|- zero", "", "", api.ErrType}, {"", "zero", "bool", "", api.ErrType}, {"", "least :: bool", "", "", api.ErrSort}, {"", "x :: set", "", "", api.ErrMissing}, {"", "x )", "", "", api.ErrText}, {"", "x `", "", "", token.ErrByte}, {"", "", "", "", api.ErrText}, {"x:set", "y", "", "", api.ErrMissing}, {"", "x", "set", "", api.ErrMissing},
		{"", "x :: 'a::{c,d}", "", "$x:'a{c,d}", api.OK}, {"", "ALL x. x = least", "", "(All:fun(fun('a{c}, bool), bool) (\\x:'a{c} . (Equal:fun('a{c}, fun('a{c}, bool)) #0 least:'a{c})))", api.OK},
	} {
		var known []infer.Known
		if name, typ, ok := strings.Cut(c.known, ":"); ok {
			known = append(known, infer.Known{Name: name, Type: of(typ)})
		}
		out, e := Read(thy, signs(), known, c.text, of(c.want))
		s := ""
		if out.Op != 0 {
			s = raw(out)
		}
		if s != c.out || e != c.e {
			t.Error(i, s, e)
		}
	}
	bad := thy
	bad.Name = "1"
	if _, e := Read(bad, []Notation{{}}, nil, "`", api.Type{}); e != api.ErrForm {
		t.Error(e)
	}
	if _, e := Read(api.Theory{Name: "T", Classes: []api.Class{{}}}, nil, nil, "x", api.Type{}); e != sort.ErrName {
		t.Error(e)
	}
	if _, e := Read(thy, []Notation{{}}, nil, "`", api.Type{}); e != ErrNotation {
		t.Error(e)
	}
	if _, e := Read(thy, []Notation{fix("none", Infix, 5, "+")}, nil, "x + y", api.Type{}); e != infer.ErrUnknown {
		t.Error(e)
	}
	// 30 readings, and more: of each pair of signs one
	l := []Notation{mix("suc", 0, "[_]", 0), mix("id", 0, "[_]", 0), mix("Not", 0, "[_]", 0), mix("zero", 9, "<"), mix("nil", 9, "<"), fix("when", Infix, 3, "+"), mix("least", 9, "<"), mix("f1", 9, "<"), mix("f2", 9, "<"), mix("f3", 9, "<"), mix("f4", 9, "<"), mix("f5", 9, "<"), mix("f6", 9, "<"), mix("f7", 9, "<")}
	if got, _, _ := Readings(l, "[ < ]", 31); len(got) != 30 {
		t.Error(len(got))
	}
	if _, e := Read(thy, l, nil, "[ < ]", of("nat")); e != infer.ErrAmbiguous {
		t.Error(e)
	}
	if _, e := Read(thy, append(l, mix("f8", 9, "<")), nil, "[ < ]", of("nat")); e != api.ErrLarge {
		t.Error(e)
	}
}

func TestP161Type(t *testing.T) {
	long := strings.Repeat("x", 40)
	for i, c := range []struct {
		text, want string
		e          api.Errno
	}{
		{"nat", "nat", api.OK}, {" (* a *) 'a list => ?'b.2", "fun(list('a), ?b.2)", api.OK}, {"(nat, 'a::{d, c}) pair", "pair(nat, 'a{c,d})", api.OK}, {"((nat))", "nat", api.OK}, {"imp.x", "imp.x", api.OK}, {"'a::{}", "'a", api.OK}, {"?'a::c => nat", "fun(?a.0{c}, nat)", api.OK},
		{"", "", api.ErrText}, {"nat)", "", api.ErrText}, {"x ==> y", "", api.ErrText}, {"'a list 'b", "", api.ErrText}, {"?x", "", api.ErrText}, {"'a::", "", api.ErrText}, {"'a::'b", "", api.ErrText}, {"nat::c", "", api.ErrText}, {"(nat, nat)", "", api.ErrText}, {"`", "", token.ErrByte}, {`"nat"`, "", api.ErrText}, {`nat"`, "", token.ErrString}, {"(*", "", token.ErrComment}, {strings.Repeat("x ", 201), "", api.ErrCount}, {strings.Repeat(" ", 40001), "", api.ErrLarge}, {long + "x", "", api.ErrText}, {"?'a.1000001", "", api.ErrText},
		{"'a::{" + strings.TrimSuffix(strings.Repeat("c,", 20), ",") + "}", "'a{c}", api.OK},
	} {
		out, e := Type(c.text)
		s := ""
		if out.Op != 0 {
			s, _ = types.Text(out)
		}
		if s != c.want || e != c.e {
			t.Errorf("%d %.30q %s %d", i, c.text, s, e)
		}
	}
	var l []string
	for i := range 21 {
		l = append(l, fmt.Sprintf("c%02d", i))
	}
	if _, e := Type("'a :: {" + strings.Join(l, ", ") + "}"); e != api.ErrCount {
		t.Error(e)
	}
	if _, e := Type("'a :: {" + strings.Join(l[1:], ", ") + "}"); e != api.OK {
		t.Error(e)
	}
	if out, e := Type("nat" + strings.Repeat(" list", 199)); e != api.OK {
		t.Error(e)
	} else if n, _ := types.Size(out); n != 200 {
		t.Error(n)
	}
}

func TestP161TypeText(t *testing.T) {
	for i, c := range []struct {
		t, want string
		e       api.Errno
	}{
		{"fun(fun('a, 'b), list('a))", "('a => 'b) => 'a list", api.OK}, {"fun('a, fun('b, 'c))", "'a => 'b => 'c", api.OK}, {"list(fun('a, 'b))", "('a => 'b) list", api.OK}, {"list(list(nat))", "nat list list", api.OK}, {"pair(fun(nat, nat), list(nat))", "(nat => nat, nat list) pair", api.OK}, {"list(pair(nat, nat))", "(nat, nat) pair list", api.OK}, {"t(nat, nat, nat)", "(nat, nat, nat) t", api.OK}, {"nat", "nat", api.OK}, {"a.b", "a.b", api.OK},
		{"?a.0", "?'a", api.OK}, {"?a.3", "?'a.3", api.OK}, {"'a{c}", "'a :: c", api.OK}, {"'a{c,d}", "'a :: {c, d}", api.OK}, {"?a.3{c,d}", "?'a.3 :: {c, d}", api.OK}, {"list('a{c})", "'a :: c list", api.OK}, {"fun('a{c,d}, ?b.0{c})", "'a :: {c, d} => ?'b :: c", api.OK}, {"pair('a{c}, 'b)", "('a :: c, 'b) pair", api.OK},
		{"fun", "fun", api.OK}, {"fun(nat)", "nat fun", api.OK}, {"fun(nat, nat, nat)", "(nat, nat, nat) fun", api.OK}, {"list(fun)", "fun list", api.OK},
		{"a..b", "", ErrNoText}, {"a.", "", ErrNoText}, {"'a.b", "", ErrNoText}, {"?a.b.0", "", ErrNoText}, {"list('a.b)", "", ErrNoText}, {"'a{c..d}", "", ErrNoText}, {"'a{c.d}", "'a :: c.d", api.OK}, {"'a'", "'a'", api.OK}, {"a.1", "", ErrNoText}, {"_", "_", api.OK},
	} {
		if s, e := TypeText(of(c.t)); s != c.want || e != c.e {
			t.Error(i, s, e)
		}
	}
	for i, c := range []struct {
		t api.Type
		e api.Errno
	}{{api.Type{}, api.ErrForm}, {api.Type{Op: api.TVar, Name: "a", Index: 1000001}, api.ErrRange}, {api.Type{Op: api.TCon, Name: "list", Args: []api.Type{{Op: 9}}}, api.ErrForm}} {
		if s, e := TypeText(c.t); s != "" || e != c.e {
			t.Error(i, s, e)
		}
	}
	x := of("nat")
	for n := 1; n <= 499; n++ {
		x = api.Type{Op: api.TCon, Name: "list", Args: []api.Type{x}}
		s, e := TypeText(x)
		if want := n < 200; want != (e == api.OK) || !want && (e != ErrNoText || s != "") {
			t.Error(n, e)
		}
	}
	if _, e := TypeText(api.Type{Op: api.TCon, Name: "list", Args: []api.Type{x}}); e != api.ErrDepth {
		t.Error(e)
	}
}

func TestP161Print(t *testing.T) {
	thy := logic()
	read := func(text string) api.Term {
		x, e := Read(thy, signs(), nil, text, api.Type{})
		if e != api.OK {
			t.Fatal(text, e)
		}
		return x
	}
	for i, s := range []string{
		"A ==> B ==> C", "(A ==> B) ==> C", "!! x. x == x ==> A", "!! x. !! y. x == y", "|- A --> A", "|- (A --> B) --> C & D | ~ E", "|- ~ (A & B)", "|- (A & B) & C", "a + b + c", "a + (b + c)", "a + b * c", "f (a + b) (g a)", "% x. x", "% (x :: nat). x", "x + zero = y", "|- ALL x. x = zero --> (EX y. y <= x)", "imp A", "plus", "x = (y :: nat)", "x :: nat", "?x.3 + ?x", "% f. f (% x_1. x_1) x", "|- zero = zero",
		"if A then x else y", "if A then (if B then x) else y", "if A then if B then x else y else z", "if if A then B else C then x else y", "NIL", "cons zero NIL", "NIL = (nil :: nat list)", "All", "% P. All P", "All P", "id id",
	} {
		if got, e := Print(thy, signs(), nil, read(s)); got != s || e != api.OK {
			t.Error(i, s, got, e)
		}
	}
	// the second text: brackets around all parts
	for i, c := range [][2]string{{"if A then (if B then x) else (if C then x)", "if A then (if B then x) else (if C then x)"}, {"if A then (if B then x + y) else f x zero", "if A then (if B then (x + y)) else ((f x) zero)"}, {"if A then (if B then x) else (% (y :: nat list). x) z", "if A then (if B then x) else ((% y. x) (z :: (nat list)))"}} {
		if got, e := Print(thy, signs(), nil, read(c[0])); got != c[1] || e != api.OK {
			t.Error(i, got, e)
		}
	}
	for i, c := range []struct {
		l    []Notation
		t    string
		want string
	}{
		{nil, "A ==> B", "imp A B"}, {nil, "!!x. x == y", "all (% x. eq x y)"}, {[]Notation{fix("plus", Infixl, 5, "*")}, "zero + (zero + x)", "zero * (zero * x)"}, {[]Notation{mix("suc", 5, "*_", 5), fix("plus", Infixl, 5, "*")}, "suc zero + (zero + suc x)", "( * zero) * (zero * ( * x))"},
		{[]Notation{mix("plus", 5, "add"), fix("plus", Infix, 5, "+"), fix("plus", Infix, 5, "-")}, "x + y", "x + y"}, {[]Notation{fix("plus", Infix, 5, "-"), mix("plus", 5, "add"), fix("plus", Infix, 5, "+")}, "x + y", "x - y"}, {[]Notation{mix("plus", 5, "add"), fix("plus", Infix, 5, "+")}, "plus", "add"}, {[]Notation{mix("plus", 5, "add"), fix("plus", Infix, 5, "+")}, "plus zero", "plus zero"}, {[]Notation{mix("plus", 5, "add")}, "x + y", "plus x y"},
		{[]Notation{mix("All", 5, "all_", 0), fix("All", Binder, 5, "ALL")}, "ALL x. x = zero", "all % x. Equal x zero"}, {[]Notation{fix("All", Binder, 5, "ALL"), mix("All", 5, "all_", 0)}, "ALL x. x = zero", "ALL x. Equal x zero"}, {[]Notation{fix("All", Binder, 5, "ALL"), mix("All", 5, "all_", 0)}, "All P", "all P"}, {[]Notation{mix("zero", 0, "z"), mix("suc", 7, "s_", 7)}, "suc zero", "s (z)"}, {[]Notation{mix("id", 7, "<_>", 0)}, "id f x", "id f x"}, {[]Notation{mix("id", 7, "<_>", 0)}, "f (id x)", "f (< x >)"}, {[]Notation{mix("id", 1000, "<_>", 0)}, "f (id x) (id id)", "f < x > < id >"},
		{[]Notation{mix("id", 1000, "{_}", 0), mix("mk", 1000, "(_,_)", 0, 0)}, "mk (id x) (id (mk y z))", "({x}, {(y, z)})"}, {[]Notation{mix("id", 5, "_.", 0)}, "mk (id (id x)) z", "mk (x..) z"},
	} {
		if got, e := Print(thy, c.l, nil, read(c.t)); got != c.want || e != api.OK {
			t.Error(i, got, e)
		}
	}
}

func TestP161PrintNames(t *testing.T) {
	thy := logic()
	x := func(name, typ string) api.Term { return api.Term{Op: api.Free, Name: name, Type: of(typ)} }
	abs := func(name, typ string, body api.Term) api.Term {
		return api.Term{Op: api.Abs, Name: name, Type: of(typ), Kids: []api.Term{body}}
	}
	bound := func(n int) api.Term { return api.Term{Op: api.Bound, Num: n} }
	app := func(f api.Term, l ...api.Term) api.Term { return term.Apps(f, l) }
	con := func(name, typ string) api.Term { return api.Term{Op: api.Const, Name: name, Type: of(typ)} }
	long := strings.Repeat("x", 39)
	known := []infer.Known{{Name: "suc", Type: of("nat")}, {Name: "k", Type: of("nat")}}
	for i, c := range []struct {
		t    api.Term
		want string
		e    api.Errno
	}{
		{abs("", "'a", bound(0)), "% x. x", api.OK}, {abs("x.y", "'a", bound(0)), "% x. x", api.OK}, {abs("x", "'a", abs("x", "'b", bound(1))), "% x. % x_1. x", api.OK}, {abs("x", "'a", abs("", "'b", bound(0))), "% x. % x_1. x_1", api.OK}, {abs("y", "nat", x("y", "nat")), "% (y_1 :: nat). y :: nat", api.OK}, {abs("zero", "'a", con("zero", "nat")), "% zero_1. zero", api.OK}, {abs("zero", "'a", bound(0)), "% zero. zero", api.OK}, {abs("ALL", "'a", bound(0)), "% ALL_1. ALL_1", api.OK}, {abs("if", "'a", bound(0)), "% if_1. if_1", api.OK}, {abs("x_1", "'a", abs("x", "'b", abs("x", "'c", bound(2)))), "% x_1. % x. % x_2. x_1", api.OK}, {abs("k", "'a", bound(0)), "% k. k", api.OK},
		{x("k", "nat"), "k", api.OK}, {x("k", "bool"), "", ErrNoText}, {x("j", "bool"), "j :: bool", api.OK}, {con("suc", "fun(nat, nat)"), "", ErrNoText}, {x("suc", "nat"), "suc", api.OK}, {x("zero", "nat"), "", ErrNoText}, {x("if", "nat"), "", ErrNoText}, {x("a..b", "nat"), "", ErrNoText}, {x("a.b", "'a"), "a.b", api.OK}, {api.Term{Op: api.Var, Name: "a.b", Type: of("'a")}, "", ErrNoText}, {api.Term{Op: api.Var, Name: "a", Num: 7, Type: of("list(?b.1)")}, "?a.7 :: ?'b.1 list", api.OK}, {x("j", "a..b"), "", api.ErrMissing},
		{abs(long, "'a", abs(long, "'b", bound(0))), "", ErrNoText}, {abs(long[2:], "'a", abs(long[2:], "'b", bound(0))), "% " + long[2:] + ". % " + long[2:] + "_1. " + long[2:] + "_1", api.OK}, {app(con("Not", "fun(bool, bool)"), x("p", "bool")), "~ p", api.OK},
		{api.Term{}, "", api.ErrForm}, {app(con("zero", "nat"), x("p", "bool")), "", api.ErrType}, {con("none", "nat"), "", api.ErrMissing}, {con("least", "bool"), "", api.ErrType},
	} {
		got, e := Print(thy, signs(), known, c.t)
		if e != c.e || e == api.OK && got != c.want || e != api.OK && got != "" {
			t.Error(i, got, e)
		}
	}
	if _, e := Print(thy, []Notation{{}}, nil, api.Term{}); e != ErrNotation {
		t.Error(e)
	}
	if _, e := Print(thy, nil, make([]infer.Known, 61), x("x", "nat")); e != api.ErrCount {
		t.Error(e)
	}
	if _, e := Print(api.Theory{Name: "T", Types: []api.TypeDecl{{Name: "nat"}}}, nil, nil, x("x", "nat")); e != api.ErrTheory {
		t.Error(e)
	}
	// more tokens than a text may have
	y := x("x", "nat")
	for n := 2; n < 203; n++ {
		y = app(con("suc", "fun(nat, nat)"), y)
		if 5 < n && n < 199 {
			continue
		}
		_, e := Print(thy, []Notation{mix("suc", 5, "+_", 5)}, nil, y)
		if (n <= 200) != (e == api.OK) || n > 200 && e != ErrNoText {
			t.Fatal(n, e)
		}
	}
	// two notations that the text cannot tell apart
	both := []Notation{fix("plus", Infixl, 5, "+"), fix("minus", Infixl, 5, "+")}
	two := app(con("plus", "fun(nat, fun(nat, nat))"), y.Kids[1].Kids[1], x("z", "nat"))
	if s, e := Print(thy, both, nil, two); e != ErrNoText || s != "" {
		t.Error(s, e)
	}
}

// Readings are what the document says of the trees, word by word.
func TestP161Random(t *testing.T) {
	thy := logic()
	some, several := 0, 0
	for seed := range 5000 {
		g := newGen(seed, thy)
		l := g.notations()
		text := g.text(l, 12)
		most := g.Intn(40) + 1
		got, at, e := Readings(l, text, most)
		want := naiveReadings(l, text, most)
		if (e == api.OK) != (len(want) > 0) || raws(got) != raws(want) || e != api.OK && e != api.ErrText && e < 160 {
			t.Fatalf("%d %q %s %s %d %d", seed, text, raws(got), raws(want), at, e)
		}
		if len(want) > 0 {
			some++
		}
		if len(want) > 1 {
			several++
		}
		known := []infer.Known{{Name: "x", Type: of("nat")}}
		a, e1 := Read(thy, l, known, text, api.Type{})
		b, e2 := naiveRead(thy, l, known, text, api.Type{})
		if e1 != e2 || e1 == api.OK && raw(a) != raw(b) {
			t.Fatalf("%d %q %d %d", seed, text, e1, e2)
		}
	}
	if some < 2000 || several < 40 {
		t.Error(some, several)
	}
}

func TestP161RandomPrint(t *testing.T) {
	thy := logic()
	codes := map[api.Errno]int{}
	for seed := range 4000 {
		g := newGen(seed, thy)
		l := g.notations()
		x := g.term(g.typ(1), nil, 4)
		known := []infer.Known{{Name: "n", Type: of("nat")}}[:g.Intn(2)]
		got, e := Print(thy, l, known, x)
		want, e2 := naivePrint(thy, l, known, x)
		if got != want || e != e2 {
			t.Fatalf("%d %s: %q %d, not %q %d", seed, raw(x), got, e, want, e2)
		}
		codes[e]++
	}
	if codes[api.OK] < 2000 || codes[ErrNoText] < 20 {
		t.Error(codes)
	}
}

func TestP162Back(t *testing.T) {
	thy := logic()
	right := 0
	for seed := range 3000 {
		g := newGen(seed, thy)
		l := signs()
		if seed%2 == 0 {
			l = g.notations()
		}
		x := g.term(g.typ(2), nil, 5)
		s, e := Print(thy, l, nil, x)
		if e != api.OK {
			continue
		}
		right++
		back, e := Read(thy, l, nil, s, api.Type{})
		if e != api.OK || !term.Equal(back, x) {
			t.Fatalf("%d %q %s", seed, s, raw(x))
		}
	}
	if right < 1500 {
		t.Error(right)
	}
}

// Type of TypeText is the type, and TypeText what the document says.
func TestP162Types(t *testing.T) {
	for seed := range 5000 {
		g := newGen(seed, api.Theory{})
		x := g.typ(5)
		s, e := TypeText(x)
		back, e2 := Type(s)
		if e != api.OK || e2 != api.OK || !types.Equal(back, x) || s != spaced(printer{}.typ(x, 0)) {
			t.Fatal(seed, s, e, e2)
		}
	}
}

func TestP163Grammar(t *testing.T) {
	thy := logic()
	for seed := range 2000 {
		g := newGen(seed, thy)
		l := g.notations()
		p, e := Grammar(l)
		if e != api.OK || grammar.Check(p) != api.OK {
			t.Fatal(seed, e)
		}
		text := g.text(l, 8)
		if g.Intn(3) == 0 {
			text += g.pick(" x", " )", " 1", " ::", " 'a")
		}
		ok, _ := grammar.Accepts(p, "term", 0, tokensOf(l, text))
		_, at, e := Readings(l, text, 1)
		if ok != (e == api.OK) {
			t.Fatalf("%d %q %d", seed, text, e)
		}
		if e == api.ErrText {
			n, _ := grammar.Reach(p, "term", 0, tokensOf(l, text))
			found, _, _ := token.Scan(Keywords(l), text)
			want := len(text)
			if n < len(found) {
				want = found[n].At
			}
			if at != want {
				t.Fatalf("%d %q %d", seed, text, at)
			}
		}
	}
}

func within(a, b []api.Term) bool {
	return !slices.ContainsFunc(a, func(x api.Term) bool {
		return !slices.ContainsFunc(b, func(y api.Term) bool { return term.Equal(x, y) })
	})
}

// A text's readings are among those of the text in brackets.
func TestP164Brackets(t *testing.T) {
	thy := logic()
	for seed := range 3000 {
		g := newGen(seed, thy)
		l := g.notations()
		text := g.text(l, 10)
		a, _, e := Readings(l, text, 100)
		b, _, e2 := Readings(l, "( "+text+" )", 100)
		if e == api.OK && (e2 != api.OK || len(b) < 50 && !within(a, b)) {
			t.Fatalf("%d %q %s %s", seed, text, raws(a), raws(b))
		}
	}
}

// A reading of a text is one with further notations whose words are keywords already.
func TestP165More(t *testing.T) {
	thy := logic()
	for seed := range 3000 {
		g := newGen(seed, thy)
		l := g.notations()
		more := slices.Clone(l)
		for _, n := range g.notations() {
			if all := append(slices.Clone(more), n); Check(all) == api.OK && slices.Equal(Keywords(all), Keywords(l)) {
				more = all
			}
		}
		text := g.text(l, 9)
		a, _, e := Readings(l, text, 100)
		b, _, e2 := Readings(more, text, 100)
		if e == api.OK && (e2 != api.OK || len(b) < 50 && !within(a, b)) {
			t.Fatalf("%d %q %s %s", seed, text, raws(a), raws(b))
		}
	}
}

func TestP161Pure(t *testing.T) {
	x, e := Read(theory.Pure(), Pure(), nil, "!!x. x == x ==> A", api.Type{})
	y, e2 := Read(theory.Pure(), Pure(), nil, "!!x. ((x == x) ==> A)", api.Type{})
	if e != api.OK || e2 != api.OK || !term.Equal(x, y) {
		t.Error(e, e2)
	}
	p := func(name string) api.Term { return api.Term{Op: api.Free, Name: name, Type: types.Prop()} }
	for want, z := range map[string]api.Term{"A ==> B ==> C": term.Imp(p("A"), term.Imp(p("B"), p("C"))), "(A ==> B) ==> C": term.Imp(term.Imp(p("A"), p("B")), p("C")), "!! A. A": term.All(p("A"), p("A"))} {
		if s, e := Print(theory.Pure(), Pure(), nil, z); s != want || e != api.OK {
			t.Error(s, e)
		}
	}
}
