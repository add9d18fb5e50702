package pattern

import (
	"slices"
	"strings"
	"testing"

	"triforium/api"
	"triforium/sort"
	"triforium/term"
	"triforium/types"
)

func TestP91Match(t *testing.T) {
	for _, x := range []struct {
		p, t, want string
		e          api.Errno
	}{
		{"z", "z", "", api.OK}, {"z", "$n", "", api.ErrFail}, {"?x", "s z", "x.0=s z", api.OK}, {"?x", "?x", "x.0=?x.0", api.OK}, {"?x", "s ?x", "x.0=s ?x.0", api.OK}, {"z", "?x", "", api.ErrFail},
		{"c ?x ?y", "c ?y ?x", "x.0=?y.0 y.0=?x.0", api.OK}, {"c ?x ?x", "c z z", "x.0=z", api.OK}, {"c ?x ?x", "c z (s z)", "", api.ErrFail}, {"c ?x ?x", "c ?x ?y", "", api.ErrFail}, {"c ?x (s ?x)", "c z (s z)", "x.0=z", api.OK},
		{"%x:N. ?F x", "%x:N. c x x", "F.0=%x:nat. c #0 #0", api.OK}, {"%x:N. %y:N. ?F x", "%x:N. %y:N. c y z", "", api.ErrFail}, {"%x:N. ?x", "%x:N. x", "", api.ErrFail}, {"%x:N. ?x", "%x:N. s z", "x.0=s z", api.OK},
		{"%x:N. %y:N. ?G y x", "%x:N. %y:N. c x (s y)", "G.0=%x:nat. %x:nat. c #0 (s #1)", api.OK}, {"%x:N. %y:N. c (?F x) (?F y)", "%x:N. %y:N. c (s x) (s y)", "F.0=%x:nat. s #0", api.OK}, {"%x:N. %y:N. c (?F x) (?F y)", "%x:N. %y:N. c (s x) (s x)", "", api.ErrFail},
		{"%x:N. ?F x", "s", "F.0=%x:nat. s #0", api.OK}, {"?F", "s", "F.0=s", api.OK}, {"?F", "%x:N. s x", "F.0=%x:nat. s #0", api.OK}, {"s", "%x:N. s x", "", api.OK}, {"%x:N. s x", "s", "", api.OK}, {"%x:N. c x", "c", "", api.OK}, {"%x:N. ?G x", "%x:N. %y:N. c y x", "G.0=%x:nat. %x:nat. c #0 #1", api.OK},
		{"c (b ?F) (b (%x:N. ?F x))", "c (b s) (b (%x:N. s x))", "F.0=s", api.OK}, {"c (b ?F) (b (%x:N. ?F x))", "c (b (%x:N. s x)) (b s)", "F.0=%x:nat. s #0", api.OK},
		{"?x", "(%x:N. s x) z", "x.0=s z", api.OK}, {"s ?x", "(%f:N>N. f z) s", "x.0=z", api.OK}, {"c ?x ?y", "c z (?F z)", "x.0=z y.0=?F.0 z", api.OK}, {"%x:N. ?F x", "%x:N. ?H (s x)", "F.0=%x:nat. ?H.0 (s #0)", api.OK}, // what is no pattern
		{"%f:N>N. f ?x", "%f:N>N. f z", "x.0=z", api.OK}, {"%f:N>N. %g:N>N. f ?x", "%f:N>N. %g:N>N. g z", "", api.ErrFail}, {"$f ?x", "$f $n", "x.0=$n", api.OK}, {"$f ?x", "s $n", "", api.ErrFail}, {"c ?x", "s", "", api.ErrFail}, {"c ?x ?y", "s z", "", api.ErrFail},
		{"?B", "%f:N>N. f z", "B.0=%x:fun(nat, nat). #0 z", api.OK},
	} {
		i, e := Match(small(), of(kinds, x.p), of(kinds, x.t))
		if e != x.e || instText(i) != x.want {
			t.Error(x.p, x.t, e, instText(i))
		}
	}
}

func TestP91MatchTypes(t *testing.T) {
	for _, x := range []struct {
		kinds, p, more, t, want string
		e                       api.Errno
	}{
		{"?x: ?a", "?x", "", "z", "a.0=nat x.0=z", api.OK}, {"?x: ?a{c}", "?x", "", "z", "a.0=nat x.0=z", api.OK}, {"?x: ?a{d}", "?x", "", "z", "", api.ErrFail}, {"?x: N", "?x", "$y: ?a", "$y", "", api.ErrFail}, {"?x: 'a", "?x", "", "z", "", api.ErrFail},
		{"?x: ?a", "?x", "$y: ?a{c}", "$y", "a.0=?a.0{c} x.0=$y", api.OK}, {"?x: ?b; ?l: L?b; cons: ?b>L?b>L?b", "cons ?x ?l", "cons: N>LN>LN; nil: LN", "cons z nil", "b.0=nat l.0=nil x.0=z", api.OK},
		{"eq: ?b>?b>P; ?x: ?b", "eq ?x ?x", "eq: N>N>P", "eq z z", "b.0=nat x.0=z", api.OK}, {"eq: ?b>?b>P; ?x: ?b; ?y: ?b", "eq ?x ?y", "eq: N>N>P", "eq z (s z)", "b.0=nat x.0=z y.0=s z", api.OK},
		{"nil: L?b; eq: L?b>L?b>P; ?r: L?b", "eq nil ?r", "nil: LN; eq: LN>LN>P", "eq nil nil", "b.0=nat r.0=nil", api.OK}, {"nil: LN; eq: LN>LN>P", "eq nil nil", "nil: L?b; eq: L?b>L?b>P", "eq nil nil", "", api.ErrFail},
		{"$x: ?a; eq: ?a>?a>P", "eq $x $x", "$x: N; eq: N>N>P", "eq $x $x", "a.0=nat", api.OK}, {"?F: ?a>?b", "%x:?a. ?F x", "", "s", "a.0=nat b.0=nat F.0=%x:nat. s #0", api.OK}, {"?F: ?a>?b", "?F", "", "c", "a.0=nat b.0=fun(nat, nat) F.0=c", api.OK},
		{"?F: ?a>?b", "%x:?a. ?F x", "", "%x:N. id", "a.0=nat b.0=fun(?a.0, ?a.0) F.0=%x:nat. id", api.OK}, {"?x: ?a; ?y: ?b", "?x", "id: N>N", "id", "a.0=fun(nat, nat) x.0=id", api.OK},
	} {
		i, e := Match(small(), of(x.kinds, x.p), of(x.more, x.t))
		if e != x.e || instText(i) != x.want {
			t.Error(x.p, x.t, e, instText(i))
		}
	}
}

func TestP91MatchErrors(t *testing.T) {
	thy := small()
	bad := api.Term{Op: api.App}
	z, high := of(kinds, "z"), of("?F: N>N", "?F z")
	grows := "(%x:N. c x x)"
	for i, x := range []struct {
		p, t api.Term
		e    api.Errno
	}{
		{bad, bound(0), api.ErrForm}, {bound(0), bad, term.ErrLoose}, {z, bad, api.ErrForm}, {high, bad, api.ErrForm}, {high, z, ErrPattern}, {high, of(kinds, tower(grows, 60, "z")), ErrPattern},
		{of("?x: N; eq: N>P>P", "eq ?x"), z, api.ErrType}, {of("?x: N; ?y: P", "?x"), of("?x: P", "?x"), api.ErrFail}, {of("?x: ?a", "?x"), of("?x: ?a{c}", "?x"), api.OK}, // other sorts in p and in t
		{z, of(kinds, "(%x:N. "+tower("s", 100, "x")+") z"), api.ErrFail}, {of(kinds, "?x"), of(kinds, tower(grows, 60, "z")), api.ErrFuel}, {of(kinds, "?x"), of(kinds, tower("(%x:N. x)", 240, "z")), api.OK},
		{of("?x: N", "?x"), of("$f: (N>N)>N", "$f (%x:N. (%y:N. y) x)"), api.OK},
	} {
		i2, e := Match(thy, x.p, x.t)
		if e != x.e || e != api.OK && len(i2.Terms)+len(i2.Types) > 0 {
			t.Error(i, e, x.e)
		}
	}
	// more than 1000 steps, and just as many
	many := func(n int) api.Term {
		out := z
		for range 10 {
			out = term.Apps(of(kinds, "c"), []api.Term{of(kinds, tower("(%x:N. x)", n, "z")), out})
		}
		return out
	}
	if _, e := Match(thy, of(kinds, "?x"), many(100)); e != api.OK {
		t.Error(e)
	}
	if _, e := Match(thy, of(kinds, "?x"), term.Apps(of(kinds, "c"), []api.Term{of(kinds, "(%x:N. x) z"), many(100)})); e != api.ErrFuel {
		t.Error(e)
	}
	// a bind that is deeper than the term: eta
	k := "N"
	for range 100 {
		k = "N>" + k
	}
	kinds := "$d: (" + k + ")>" + k + "; $e: " + k + "; ?F: " + k
	p := of(kinds, "?F")
	for i := range 100 {
		p = term.Apps(term.Lift(p, 1), []api.Term{bound(0)})
		_ = i
	}
	p = abstraction(slices.Repeat([]api.Type{typ("N")}, 100), p)
	if _, e := Match(thy, p, of(kinds, tower("$d", 299, "$e"))); e != api.OK { // 100 + 100 + 300
		t.Error(e)
	}
	if _, e := Match(thy, p, of(kinds, tower("$d", 300, "$e"))); e != api.ErrLarge {
		t.Error(e)
	}
	thy.Classes[0].Name = ""
	if _, e := Match(thy, bad, bad); e != sort.ErrName {
		t.Error(e)
	}
	thy = small()
	thy.Types = thy.Types[1:]
	thy.Consts = thy.Consts[:1]
	if _, e := Match(thy, of(kinds, "%x:N. x"), of(kinds, "%x:N. x")); e != api.ErrFail {
		t.Error("no type of functions", e)
	}
}

func TestP91Solves(t *testing.T) {
	thy := small()
	inst := func(kinds string, l ...string) api.Inst {
		var i api.Inst
		for _, s := range l {
			name, to, _ := strings.Cut(s, "=")
			if strings.HasPrefix(name, "'") {
				i.Types = append(i.Types, api.TypeBind{Name: name[1:], To: typ(to)})
			} else {
				i.Terms = append(i.Terms, api.TermBind{Name: name, To: of(kinds, to)})
			}
		}
		return i
	}
	pairs := func(kinds string, l ...string) []Pair {
		var out []Pair
		for i := 0; i < len(l); i += 2 {
			out = append(out, Pair{of(kinds, l[i]), of(kinds, l[i+1])})
		}
		return out
	}
	const poly = "?x: ?a; ?y: ?b{c}; ?F: ?a>?a"
	for i, x := range []struct {
		i    api.Inst
		l    []Pair
		want bool
	}{
		{inst(kinds), nil, true}, {inst(kinds), pairs(kinds, "z", "z"), true}, {inst(kinds), pairs(kinds, "z", "s z"), false}, {inst(kinds, "x=s z"), pairs(kinds, "?x", "s z"), true}, {inst(kinds, "x=z", "x=s z"), pairs(kinds, "?x", "s z"), false}, {inst(kinds, "x=s z", "x=z"), pairs(kinds, "?x", "s z"), true},
		{inst(kinds, "F=%x:N. s x"), pairs(kinds, "?F z", "s z", "?F", "s"), true}, {inst(kinds, "F=%x:N. s x"), pairs(kinds, "?F z", "s z", "?F", "%x:N. x"), false}, {inst(kinds, "x=?y", "y=?x"), pairs(kinds, "c ?x ?y", "c ?y ?x"), false},
		{inst(kinds, "x=s"), pairs(kinds, "z", "z"), true}, {inst(kinds, "x=s"), pairs(kinds, "?x", "?x"), false}, {inst(kinds, "F=z"), pairs(kinds, "?F", "?F"), false}, {api.Inst{Terms: []api.TermBind{{Name: "x", To: bound(0)}}}, pairs(kinds, "?x", "?x"), false},
		{inst(kinds, "'a=N", "x=z"), pairs(poly, "?x", "?x"), true}, {inst(kinds, "'a=N"), pairs(poly, "?x", "?x"), true}, {inst(kinds, "x=z"), pairs(poly, "?x", "?x"), false}, {inst(kinds, "'b=N"), pairs(poly, "?y", "?y"), true}, {inst(kinds, "'b=P"), pairs(poly, "?y", "?y"), false}, {inst(kinds, "'b=P"), pairs(poly, "?x", "?x"), true},
		{api.Inst{Types: []api.TypeBind{{Name: "a", To: api.Type{Op: api.TCon, Name: "none"}}}}, pairs(poly, "?x", "?x"), false}, {api.Inst{Types: []api.TypeBind{{Name: "a", To: api.Type{Op: api.TCon, Name: "none"}}}}, pairs(kinds, "?x", "?x"), true},
		{api.Inst{}, []Pair{{of("?x: N", "?x"), of("?x: N", "?x")}, {of("?x: P", "?x"), of("?x: P", "?x")}}, false}, {api.Inst{}, []Pair{{of("?x: ?a", "?x"), of("?x: ?a", "?x")}, {of("?y: ?a{c}", "?y"), of("?y: ?a{c}", "?y")}}, false},
		{inst(kinds), []Pair{{api.Term{}, api.Term{}}}, false}, {inst(kinds), []Pair{{bound(0), bound(0)}}, false}, {inst(kinds, "F=%x:N. s x"), pairs(kinds, tower("?F", 1000, "z"), tower("s", 1000, "z")), false}, {inst(kinds, "F=%x:N. s x"), pairs(kinds, tower("?F", 240, "z"), tower("s", 240, "z")), true},
		{inst(kinds), pairs(kinds, tower("(%x:N. c x x)", 30, "z"), tower("(%x:N. c x x)", 30, "z")), false},
		{inst(kinds), slices.Repeat(pairs(kinds, "z", "z"), 60), true},
	} {
		if Solves(thy, x.i, x.l) != x.want {
			t.Error(i, instText(x.i), pairText(x.l))
		}
	}
	// a variable that is replaced takes what stands below it with it
	odd := api.Term{Op: api.Var, Name: "x", Type: typ("N"), Kids: []api.Term{{}}}
	if !Solves(thy, inst(kinds, "x=z"), []Pair{{odd, of(kinds, "z")}}) || Solves(thy, api.Inst{}, []Pair{{odd, of(kinds, "z")}}) {
		t.Error("a variable with Kids")
	}
	// what would be beyond all limits
	var wide func(n int, t api.Term) api.Term
	wide = func(n int, t api.Term) api.Term {
		if n == 0 {
			return t
		}
		half := wide(n-1, t)
		return term.Apps(of(kinds, "c"), []api.Term{half, half})
	}
	large := api.Inst{Terms: []api.TermBind{{Name: "x", To: wide(12, of(kinds, "z"))}}}
	many := wide(12, of(kinds, "?x"))
	if Solves(thy, large, []Pair{{many, many}}) || !Solves(thy, large, []Pair{{of(kinds, "?x"), of(kinds, "?x")}}) {
		t.Error("a term that is too large")
	}
	thy.Classes[0].Name = ""
	if Solves(thy, api.Inst{}, pairs(kinds, "z", "z")) {
		t.Error("a theory that is not right")
	}
}

func TestP95Compose(t *testing.T) {
	a := api.Inst{Types: []api.TypeBind{{Name: "b", To: typ("L?a")}, {Name: "a", To: typ("N")}}, Terms: []api.TermBind{{Name: "y", To: of(kinds, "s ?x")}, {Name: "F", Index: 3, To: of(kinds, "%x:N. c x ?y")}}}
	b := api.Inst{Types: []api.TypeBind{{Name: "e", To: typ("?b")}, {Name: "a", To: typ("P")}}, Terms: []api.TermBind{{Name: "x", To: of(kinds, "z")}, {Name: "y", To: of(kinds, "$n")}, {Name: "F", To: of(kinds, "s")}}}
	i, e := Compose(a, b)
	if e != api.OK || instText(i) != "b.0=list(prop) a.0=nat e.0=?b.0 y.0=s z F.3=%x:nat. c #0 $n x.0=z F.0=s" {
		t.Error(e, instText(i))
	}
	twice := func(i api.Inst) api.Inst {
		return api.Inst{Types: i.Types, Terms: append(slices.Clone(i.Terms), i.Terms[0])}
	}
	types2 := func(i api.Inst) api.Inst { return api.Inst{Types: append(slices.Clone(i.Types), i.Types[1])} }
	for k, x := range [][2]api.Inst{{twice(a), b}, {a, twice(b)}, {types2(a), b}, {a, types2(b)}, {twice(a), api.Inst{}}, {api.Inst{}, types2(a)}} {
		if i, e := Compose(x[0], x[1]); e != api.ErrDuplicate || len(i.Terms)+len(i.Types) > 0 {
			t.Error(k, e)
		}
	}
	odd := api.Inst{Types: []api.TypeBind{{Name: "", Index: -7}}, Terms: []api.TermBind{{Name: "\xff", Index: -7}, {Name: "\xff", Index: 7, To: bound(-1)}}}
	if i, e := Compose(odd, odd); e != api.OK || len(i.Terms) != 2 || len(i.Types) != 1 {
		t.Error("any ones", e)
	}
	if i, e := Compose(api.Inst{}, api.Inst{}); e != api.OK || len(i.Terms)+len(i.Types) > 0 {
		t.Error(e)
	}
}

func TestP93Least(t *testing.T) {
	thy := small()
	bind := func(name, to string) api.Inst {
		return api.Inst{Terms: []api.TermBind{{Name: name, To: of(kinds, to)}}}
	}
	x, y, f := of(kinds, "?x"), of(kinds, "?y"), of(kinds, "?F")
	both := func(a, b string) api.Inst {
		return api.Inst{Terms: []api.TermBind{{Name: "x", To: of(kinds, a)}, {Name: "y", To: of(kinds, b)}}}
	}
	for i, c := range []struct {
		general, special api.Inst
		vars             []api.Term
		want             bool
		e                api.Errno
	}{
		{bind("x", "s ?y"), bind("x", "s z"), []api.Term{x}, true, api.OK}, {bind("x", "s ?y"), bind("x", "z"), []api.Term{x}, false, api.OK}, {api.Inst{}, bind("x", "z"), []api.Term{x}, true, api.OK}, {bind("x", "z"), api.Inst{}, []api.Term{x}, false, api.OK},
		{both("?x", "?x"), both("z", "z"), []api.Term{x, y}, true, api.OK}, {both("?x", "?x"), both("z", "s z"), []api.Term{x, y}, false, api.OK}, {both("?x", "?x"), both("z", "s z"), []api.Term{x}, true, api.OK}, {both("?x", "?x"), both("z", "s z"), []api.Term{y}, true, api.OK}, {both("?x", "s ?x"), both("z", "s z"), []api.Term{x, y, x}, true, api.OK},
		{bind("F", "%x:N. ?H x"), bind("F", "s"), []api.Term{f}, true, api.OK}, {bind("F", "%x:N. ?x"), bind("F", "s"), []api.Term{f}, false, api.OK}, {bind("F", "%x:N. ?F (s x)"), bind("F", "s"), []api.Term{f}, false, ErrPattern},
		{api.Inst{}, api.Inst{}, nil, true, api.OK}, {api.Inst{}, api.Inst{}, slices.Repeat([]api.Term{x}, 50), true, api.OK}, {api.Inst{}, api.Inst{}, slices.Repeat([]api.Term{of(kinds, "z")}, 51), false, api.ErrCount}, {bind("x", "z"), api.Inst{}, []api.Term{x, of(kinds, "z")}, false, api.ErrArgument},
		{bind("x", "z"), api.Inst{}, []api.Term{x, {Op: api.Var}}, false, api.OK}, {api.Inst{}, api.Inst{}, []api.Term{x, {Op: api.Var}}, false, api.ErrForm}, // the first failure ends it
		{api.Inst{}, bind("x", tower("(%x:N. c x x)", 60, "z")), []api.Term{x}, false, api.ErrFuel}, {api.Inst{}, api.Inst{Terms: []api.TermBind{{Name: "x", To: bound(0)}}}, []api.Term{x}, false, term.ErrLoose},
		{api.Inst{Types: []api.TypeBind{{Name: "a", To: typ("L?b")}}}, api.Inst{Types: []api.TypeBind{{Name: "a", To: typ("LN")}}}, []api.Term{of("?x: ?a", "?x")}, true, api.OK}, {api.Inst{Types: []api.TypeBind{{Name: "a", To: typ("L?b")}}}, api.Inst{Types: []api.TypeBind{{Name: "a", To: typ("N")}}}, []api.Term{of("?x: ?a", "?x")}, false, api.OK},
	} {
		if ok, e := Least(thy, c.general, c.special, c.vars); ok != c.want || e != c.e {
			t.Error(i, ok, e)
		}
	}
	// instances that would be beyond all limits
	big := typ("N")
	for range 12 {
		big = types.Fun(big, big)
	}
	a := typ("?a")
	for range 12 {
		a = types.Fun(a, a)
	}
	v := api.Term{Op: api.Var, Name: "x", Type: a}
	if ok, e := Least(thy, api.Inst{Types: []api.TypeBind{{Name: "a", To: big}}}, api.Inst{}, []api.Term{v}); ok || e != api.ErrCount {
		t.Error(ok, e)
	}
	thy.Classes[0].Name = ""
	if _, e := Least(thy, api.Inst{}, api.Inst{}, []api.Term{x}); e != sort.ErrName {
		t.Error(e)
	}
	if ok, e := Least(thy, api.Inst{}, api.Inst{}, nil); !ok || e != api.OK {
		t.Error("no Match at all", ok, e)
	}
}

// Results share memory neither with arguments nor with each other.
func TestP91NewMemory(t *testing.T) {
	thy := small()
	p, q := of("eq: ?a>?a>P; ?x: ?a; ?y: ?a", "eq ?x ?y"), of("$l: LN; eq: LN>LN>P; nil: LN", "eq $l nil")
	before := text(p) + text(q)
	spoil := func(i api.Inst) {
		for k := range i.Types {
			i.Types[k].To.Args[0].Name = "spoilt"
		}
		for k := range i.Terms {
			i.Terms[k].To.Type.Args[0].Name = "spoilt"
		}
	}
	u, _ := Unify(thy, []Pair{{p, q}})
	m, _ := Match(thy, p, q)
	c, _ := Compose(m, m)
	d, _ := Compose(api.Inst{}, c)
	for i, x := range []api.Inst{u, m, c, d} {
		if instText(x) != "a.0=list(nat) x.0=$l y.0=nil" {
			t.Error(i, instText(x))
		}
		spoil(x)
		if x.Terms[0].To.Type.Args[0].Args != nil || text(p)+text(q) != before {
			t.Error(i, "shared")
		}
	}
}
