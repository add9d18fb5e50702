package pattern

import (
	"fmt"
	"slices"
	"strings"
	"testing"

	"triforium/api"
	"triforium/sort"
	"triforium/term"
	"triforium/types"
)

const kinds = "?F: N>N; ?G: N>N>N; ?K: N>N>N>N; ?x: N; ?y: N; ?B: (N>N)>N; $n: N; $f: N>N; ?H: N>N; ?H.5: N>N"

// tower is a function applied so many times to a term.
func tower(f string, n int, t string) string {
	return strings.Repeat("("+f+" ", n) + t + strings.Repeat(")", n)
}

func TestP91Is(t *testing.T) {
	for s, want := range map[string]bool{
		"z": true, "?F": true, "?F z": false, "%x:N. ?F x": true, "%x:N. ?F (s x)": false, "%x:N. ?G x x": false, "%x:N. %y:N. ?G y x": true, "%x:N. ?G x": true,
		"(%x:N. x) z": false, "s ((%x:N. x) z)": false, "%x:N. c (?F x) (?F x)": true, "%x:N. c x x": true, "%f:N>N. f (f z)": true, "%x:N. ?F ?x": false, "?F $n": false,
		"%f:N>N. ?B f": true, "%f:N>N. ?B (%x:N. f x)": false, "%f:N>N. s (f (?x))": true,
	} {
		if Is(of(kinds, s)) != want {
			t.Error(s)
		}
	}
	v := api.Term{Op: api.Var, Name: "F"}
	app := func(l ...api.Term) api.Term { return api.Term{Op: api.App, Kids: l} }
	for i, x := range []struct {
		t    api.Term
		want bool
	}{
		{app(v, bound(3)), true}, {app(app(v, bound(3)), bound(0)), true}, {app(app(v, bound(3)), bound(3)), false}, {app(v, bound(-1)), true}, // loose ones, and numbers that there are not
		{api.Term{}, false}, {api.Term{Op: 7}, false}, {api.Term{Op: -1}, false}, {app(v), false}, {app(v, v, v), false}, {app(), false},
		{api.Term{Op: api.Abs}, false}, {api.Term{Op: api.Abs, Kids: []api.Term{v, v}}, false}, {api.Term{Op: api.Abs, Kids: []api.Term{v}}, true},
		{api.Term{Op: api.Const, Kids: []api.Term{v}}, false}, {api.Term{Op: api.Var, Kids: []api.Term{bound(0)}}, false}, {api.Term{Op: api.Bound, Kids: []api.Term{v}}, false},
		{app(v, api.Term{Op: api.Bound, Kids: []api.Term{v}}), false}, {app(api.Term{Op: api.Const}, api.Term{}), false}, {app(api.Term{}, v), false},
		{api.Term{Op: api.Const, Name: "\xff", Num: -7, Kids: []api.Term{}}, true},
	} {
		if Is(x.t) != x.want {
			t.Error(i, x.t)
		}
	}
}

func TestP91Unify(t *testing.T) {
	for _, x := range []struct {
		a, b, want string
		e          api.Errno
	}{
		{"%x:N. ?F x", "%x:N. c x x", "F.0=%x:nat. c #0 #0", api.OK}, {"%x:N. %y:N. ?F x", "%x:N. %y:N. c y z", "", api.ErrFail},
		{"%x:N. %y:N. ?G x y", "%x:N. %y:N. ?G y x", "G.0=%x:nat. %x:nat. ?H.1", api.OK},
		{"z", "z", "", api.OK}, {"z", "$n", "", api.ErrFail}, {"$n", "$n", "", api.OK}, {"s z", "s $n", "", api.ErrFail}, {"?x", "z", "x.0=z", api.OK}, {"z", "?x", "x.0=z", api.OK},
		{"?x", "?y", "x.0=?H.1 y.0=?H.1", api.OK}, {"?x", "?x", "", api.OK}, {"?x", "s ?x", "", api.ErrFail}, {"%x:N. ?F x", "%x:N. s (?F x)", "", api.ErrFail}, {"s (s ?x)", "?x", "", api.ErrFail},
		{"?F", "s", "F.0=s", api.OK}, {"?F", "%y:N. s y", "F.0=%x:nat. s #0", api.OK}, {"%x:N. ?F x", "s", "F.0=%x:nat. s #0", api.OK}, {"%x:N. s x", "s", "", api.OK}, {"s", "%x:N. s x", "", api.OK}, {"%x:N. c x", "c", "", api.OK},
		{"?G", "%x:N. %y:N. c y x", "G.0=%x:nat. %x:nat. c #0 #1", api.OK}, {"%x:N. ?G x", "%x:N. c x", "G.0=%x:nat. c #0", api.OK}, {"%x:N. ?G x", "%x:N. %y:N. c y x", "G.0=%x:nat. %x:nat. c #0 #1", api.OK},
		{"%x:N. %y:N. ?G x y", "%x:N. %y:N. ?G x y", "", api.OK}, {"?F", "?F", "", api.OK}, {"?F", "%x:N. ?F x", "", api.OK},
		{"%x:N. %y:N. %v:N. ?K x y v", "%x:N. %y:N. %v:N. ?K y x v", "K.0=%x:nat. %x:nat. %x:nat. ?H.1 #0", api.OK},
		{"%x:N. %y:N. %v:N. ?K y v x", "%x:N. %y:N. %v:N. ?G v x", "G.0=%x:nat. %x:nat. ?H.1 #1 #0 K.0=%x:nat. %x:nat. %x:nat. ?H.1 #1 #0", api.OK},
		{"%x:N. %y:N. ?F x", "%x:N. %y:N. ?H y", "F.0=%x:nat. ?H.1 H.0=%x:nat. ?H.1", api.OK}, // a variable that has the name of new ones
		{"%x:N. ?H.5 x", "%x:N. ?H x", "H.0=%x:nat. ?H.6 #0 H.5=%x:nat. ?H.6 #0", api.OK},
		{"%x:N. %y:N. ?F y", "%x:N. %y:N. s (?G x y)", "F.0=%x:nat. s (?H.1 #0) G.0=%x:nat. %x:nat. ?H.1 #0", api.OK},
		{"%x:N. %y:N. ?F y", "%x:N. %y:N. c (?G x y) (?G y x)", "F.0=%x:nat. c ?H.2 ?H.2 G.0=%x:nat. %x:nat. ?H.2", api.OK}, // first ?H.1 of the second argument
		{"%x:N. %y:N. ?F y", "%x:N. %y:N. c (?G x y) (?H x)", "F.0=%x:nat. c (?H.1 #0) ?H.2 G.0=%x:nat. %x:nat. ?H.1 #0 H.0=%x:nat. ?H.2", api.OK},
		{"%x:N. %y:N. ?F y", "%x:N. %y:N. c (?G x y) x", "", api.ErrFail},
		{"%x:N. ?x", "%x:N. s (b (%y:N. ?G x y))", "G.0=%x:nat. %x:nat. ?H.1 #0 x.0=s (b (%y:nat. ?H.1 #0))", api.OK}, {"%x:N. ?x", "%x:N. b (%y:N. y)", "x.0=b (%y:nat. #0)", api.OK}, {"%x:N. ?x", "%x:N. b (%y:N. x)", "", api.ErrFail},
		{"c ?x ?y", "c ?y (s z)", "x.0=s z y.0=s z", api.OK}, {"c ?x (s ?x)", "c ?y ?y", "", api.ErrFail}, {"c (s ?x) (s (s ?y))", "c (s (s ?y)) (s (s (s z)))", "x.0=s (s z) y.0=s z", api.OK},
		{"%f:N>N. f (?B f)", "%f:N>N. f (f z)", "B.0=%x:fun(nat, nat). #0 z", api.OK}, {"%f:N>N. %g:N>N. f z", "%f:N>N. %g:N>N. g z", "", api.ErrFail}, {"%f:N>N. f z", "%f:N>N. s z", "", api.ErrFail},
	} {
		i, e := Unify(small(), []Pair{{of(kinds, x.a), of(kinds, x.b)}})
		if e != x.e || instText(i) != x.want {
			t.Error(x.a, x.b, e, instText(i))
		}
	}
}

// Pairs are taken in order, behind the types of all of them.
func TestP91UnifyPairs(t *testing.T) {
	pair := func(s string) Pair {
		a, b, _ := strings.Cut(s, " = ")
		return Pair{of(kinds, a), of(kinds, b)}
	}
	for _, x := range []struct {
		pairs, want string
		e           api.Errno
	}{
		{"", "", api.OK}, {"?x = ?y, ?y = z", "x.0=z y.0=z", api.OK}, {"?x = z, ?x = s z", "", api.ErrFail}, {"?x = s ?y, ?y = s ?x", "", api.ErrFail},
		{"%x:N. %y:N. ?G x y = %x:N. %y:N. ?H x, %x:N. ?G x x = %x:N. s x", "", ErrPattern},
		{"%x:N. %y:N. ?G x y = %x:N. %y:N. ?H x, %x:N. ?G x = %x:N. %y:N. s x", "G.0=%x:nat. %x:nat. s #1 H.0=%x:nat. s #0", api.OK},
		{"?F = ?H, ?F = %x:N. x, ?H = s", "", api.ErrFail},
	} {
		var l []Pair
		for _, s := range strings.Split(x.pairs, ", ") {
			if s != "" {
				l = append(l, pair(s))
			}
		}
		i, e := Unify(small(), l)
		if e != x.e || instText(i) != x.want {
			t.Error(x.pairs, e, instText(i))
		}
	}
	if _, e := Unify(api.Theory{Classes: []api.Class{{}}}, nil); e != api.OK {
		t.Error("without terms the theory plays no part", e)
	}
}

func TestP91UnifyTypes(t *testing.T) {
	const k = "?x: ?a; ?y: ?b{c}; ?u: ?e{d}; ?n: N; ?l: L?b; ?F: ?a>?b{c}; ?G: ?b{c}>?e{d}; id.n: N>N; ?v: L?e{d}; $w: ?a; ?p: ?e{d}>?e{d}; ?r: ?g.5{c}"
	for _, x := range []struct {
		a, b, want string
		e          api.Errno
	}{
		{"?x", "?n", "a.0=nat n.0=?H.1 x.0=?H.1", api.OK}, {"?x", "?y", "a.0=?b.0{c} x.0=?H.1 y.0=?H.1", api.OK}, {"?x", "z", "a.0=nat x.0=z", api.OK},
		{"?y", "?u", "b.0=?e.1{c,d} e.0=?e.1{c,d} u.0=?H.2 y.0=?H.2", api.OK}, // the new type variable takes the index 1
		{"?r", "?u", "e.0=?e.6{c,d} g.5=?e.6{c,d} r.0=?H.7 u.0=?H.7", api.OK},
		{"?u", "z", "", api.ErrFail}, {"?y", "z", "b.0=nat y.0=z", api.OK}, {"$w", "?n", "a.0=nat n.0=$w", api.OK}, {"z", "$w", "", api.ErrFail},
		{"?u", "nil", "a.0=?a.1{c} e.0=list(?a.1{c}) u.0=nil", api.OK}, {"%x:N. z", "z", "", api.ErrFail}, {"?x", "%y:?a. y", "", api.ErrFail},
		{"id z", "?n", "", api.ErrType}, {"eq ?y", "eq ?y", "", api.ErrType},
	} {
		i, e := Unify(small(), []Pair{{of(k, x.a), of(k, x.b)}})
		if e != x.e || instText(i) != x.want {
			t.Error(x.a, x.b, e, instText(i))
		}
	}
	// types of constants are unified where they are met
	a, b := of("id: (?a>?a)>(?a>?a); $g: ?a>?a; eq: (?a>?a)>(?a>?a)>P", "eq (id $g) $g"), of("id: (N>N)>N>N; $g: N>N; eq: (N>N)>(N>N)>P", "eq (id $g) $g")
	if _, e := Unify(small(), []Pair{{a, b}}); e != api.ErrType {
		t.Error("a Free with two types", e)
	}
	a, b = of("nil: L?a; eq: L?a>L?a>P", "eq nil nil"), of("nil: LN; eq: LN>LN>P; ?l: LN", "eq ?l ?l")
	if i, e := Unify(small(), []Pair{{a, b}}); e != api.OK || instText(i) != "a.0=nat l.0=nil" || typeText(i.Terms[0].To.Type) != "list(nat)" {
		t.Error(e, instText(i))
	}
	a, b = of("nil: L?a{c}", "nil"), of("nil: L'k", "nil")
	if _, e := Unify(small(), []Pair{{a, b}}); e != api.ErrFail {
		t.Error("a TFree without the sort", e)
	}
	// two bounds of one call have new variables one behind the other
	l := []Pair{{of(k, "?y"), of(k, "?u")}, {of("?h: ?h{c}", "?h"), of("?i: ?i{d}", "?i")}}
	if i, e := Unify(small(), l); e != api.OK || instText(i) != "b.0=?e.1{c,d} e.0=?e.1{c,d} h.0=?i.2{c,d} i.0=?i.2{c,d} h.0=?H.4 i.0=?H.4 u.0=?H.3 y.0=?H.3" {
		t.Error(e, instText(i))
	}
}

func TestP91UnifyErrors(t *testing.T) {
	thy := small()
	ok := Pair{of(kinds, "z"), of(kinds, "z")}
	one := func(kinds, a, b string) []Pair { return []Pair{{of(kinds, a), of(kinds, b)}} }
	bad := api.Term{Op: api.App}
	for i, x := range []struct {
		l []Pair
		e api.Errno
	}{
		{slices.Repeat([]Pair{ok}, 50), api.OK}, {slices.Repeat([]Pair{ok}, 51), api.ErrCount}, {slices.Repeat([]Pair{{bad, bad}}, 51), api.ErrCount},
		{[]Pair{{bad, ok.A}}, api.ErrForm}, {[]Pair{{ok.A, bound(0)}}, term.ErrLoose}, {[]Pair{ok, {ok.A, of("y: N", "y")}}, api.ErrMissing}, {one("s: P", "s", "z"), api.ErrType},
		{one(kinds, "?F z", "z"), ErrPattern}, {one("?F: N>N; ?x: P", "?F z", "?x"), ErrPattern}, {one("?x: N", "z", "(%x:N. x) z"), ErrPattern},
		{append(one("?x: N", "?x", "?x"), one("?x: P", "?x", "?x")...), api.ErrType}, {append(one("$x: N", "$x", "$x"), one("$x: P", "$x", "$x")...), api.ErrType}, {append(one("$x: N", "$x", "$x"), one("?x: P", "?x", "?x")...), api.OK},
		{append(one("?x: ?a", "?x", "?x"), one("?x: ?a{c}", "?x", "?x")...), api.ErrSort}, {append(one("?x: 'a", "?x", "?x"), one("?y: 'a{c}", "?y", "?y")...), api.ErrSort},
		{append(one("?F: N>N", "?F z", "z"), one("?F: P", "?F", "?F")...), api.ErrType}, // ahead of what is no pattern
		{append(one("?x: P; ?F: N>N", "?F z", "z"), Pair{ok.A, bad}), api.ErrForm},
	} {
		if i2, e := Unify(thy, x.l); e != x.e || len(i2.Terms)+len(i2.Types) > 0 && e != api.OK {
			t.Error(i, e, x.e)
		}
	}
	thy.Classes[0].Name = ""
	if _, e := Unify(thy, []Pair{{bad, bad}}); e != sort.ErrName {
		t.Error("the theory comes first", e)
	}
	// without the type constructor of functions there are terms, but no types of them
	thy = small()
	thy.Types = thy.Types[1:]
	thy.Consts = thy.Consts[:1]
	if _, e := Unify(thy, one(kinds, "%x:N. x", "%x:N. x")); e != api.ErrFail {
		t.Error(e)
	}
}

func TestP91UnifyLimits(t *testing.T) {
	thy := small()
	pair := func(a, b string) Pair { return Pair{of(kinds, a), of(kinds, b)} }
	wide := func(n int, t string) string { // 4 n + 1 nodes
		return strings.Repeat("(c "+t+" ", n) + t + strings.Repeat(")", n)
	}
	for i, x := range []struct {
		l []Pair
		e api.Errno
	}{
		{[]Pair{pair("?x", tower("s", 250, "?y")), pair("?y", tower("s", 249, "z"))}, api.OK}, {[]Pair{pair("?x", tower("s", 250, "?y")), pair("?y", tower("s", 250, "z"))}, api.ErrLarge},
		{[]Pair{pair("?y", tower("s", 250, "z")), pair("?x", tower("s", 250, "?y"))}, api.ErrLarge},
		{[]Pair{pair("?x", tower("s", 250, "?y")), pair("?y", tower("s", 250, "z")), pair("z", "s z")}, api.ErrLarge}, {[]Pair{pair("?x", tower("s", 250, "?y")), pair("z", "s z"), pair("?y", tower("s", 250, "z"))}, api.ErrFail},
		// 81 leaves, each of 245 and 249 nodes: 81 * 245 + 160 = 20005
		{[]Pair{pair("?x", wide(80, "?y")), pair("?y", wide(60, "z"))}, api.OK}, {[]Pair{pair("?x", wide(80, "?y")), pair("?y", wide(61, "z"))}, api.ErrLarge}, {[]Pair{pair("?x", wide(80, "?y")), pair("?y", wide(61, "?x"))}, api.ErrFail},
	} {
		if _, e := Unify(thy, x.l); e != x.e {
			t.Error(i, e, x.e)
		}
	}
	// a pair may be beyond what a term may be
	if i, e := Unify(thy, []Pair{pair("?y", wide(80, "z")), pair(wide(80, "?y"), wide(80, "?y"))}); e != api.OK || len(i.Terms) != 1 {
		t.Error(e)
	}
}

// Types that double with each pair.
func TestP91UnifyDoubling(t *testing.T) {
	thy := small()
	doubling := func(n int) []Pair {
		var l []Pair
		for i := range n {
			a, b := fmt.Sprintf("?x: ?a.%d", i), fmt.Sprintf("?x: ?a.%d>?a.%d", i+1, i+1)
			x, y := of(a, "?x"), of(b, "?x")
			x.Num, y.Num = i, 100+i
			l = append(l, Pair{x, y})
		}
		return l
	}
	i, e := Unify(thy, doubling(13)) // 2^14 - 1 nodes
	if n, _ := types.Size(i.Types[0].To); e != api.OK || n != 1<<14-1 {
		t.Error(n, e)
	}
	for _, n := range []int{14, 15, 49} {
		if _, e := Unify(thy, doubling(n)); e != api.ErrLarge {
			t.Error(n, e)
		}
	}
	l := append(doubling(49), Pair{of(kinds, "z"), of(kinds, "s z")})
	if _, e := Unify(thy, l); e != api.ErrFail {
		t.Error("a failure behind it", e)
	}
	l = append(doubling(49), Pair{of("?u: ?a.0", "?u"), of("?n: N", "?n")})
	if _, e := Unify(thy, l); e != api.ErrFail {
		t.Error("a type that is too large", e)
	}
	// of 26 nodes within each other, 20 times
	var deep []Pair
	for i := range 20 {
		a, b := fmt.Sprintf("?x: ?a.%d", i), fmt.Sprintf("?x: %s?a.%d", strings.Repeat("L", 26), i+1)
		x, y := of(a, "?x"), of(b, "?x")
		x.Num, y.Num = i, 100+i
		deep = append(deep, Pair{x, y})
	}
	_, e = Unify(thy, deep[:19])
	_, f := Unify(thy, deep)
	if e != api.OK || f != api.ErrLarge {
		t.Error(e, f)
	}
	// a type in a term alone
	nil0, eq0 := "nil: "+strings.Repeat("L", 300)+"?a", "eq: "+strings.Repeat("L", 300)+"?a>"+strings.Repeat("L", 300)+"?a>P"
	x := of(nil0+"; "+eq0+"; ?p: P; ?q: ?a", "eq nil nil")
	l = []Pair{{of("?p: P", "?p"), x}, {of("?q: ?a", "?q"), of("nil: "+strings.Repeat("L", 250)+"N", "nil")}}
	if _, e := Unify(thy, l); e != api.ErrLarge {
		t.Error(e)
	}
	if _, e := Unify(thy, l[1:]); e != api.OK {
		t.Error(e)
	}
}

// Many variables are bound without going through all binds for each of them.
func TestP91UnifyMany(t *testing.T) {
	a, b := api.Term{}, api.Term{}
	c := of(kinds, "c")
	for i := range 400 {
		v := api.Term{Op: api.Var, Name: "v", Num: i, Type: typ("N")}
		w := api.Term{Op: api.Var, Name: "v", Num: i + 1, Type: typ("N")}
		if i == 0 {
			a, b = v, w
			continue
		}
		a, b = term.Apps(c, []api.Term{v, a}), term.Apps(c, []api.Term{w, b})
	}
	i, e := Unify(small(), []Pair{{a, b}})
	if e != api.OK || len(i.Terms) != 401 || len(i.Types) != 0 {
		t.Fatal(e, len(i.Terms))
	}
	for _, x := range i.Terms {
		if x.To.Op != api.Var || !term.Equal(x.To, i.Terms[0].To) {
			t.Fatal(text(x.To))
		}
	}
}
