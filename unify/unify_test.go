package unify

import (
	"slices"
	"strings"
	"testing"

	"triforium/api"
	"triforium/pattern"
	"triforium/sort"
	"triforium/term"
)

const kinds = "?F: N>N; ?G: N>N>N; ?K: N>N>N>N; ?x: N; ?y: N; ?B: (N>N)>N; $n: N; $f: N>N; ?H: N>N; ?H.5: N>N; ?P: N>P; ?Q: (N>N)>N>N; $g: N>N>N>N>N>N; ?T: N>?t; ?I: ?t>?t; ?v: ?t"

func unifierText(u Unifier) string {
	s := instText(u.Inst)
	for _, p := range u.Flex {
		s += " [" + brief(p.A) + " = " + brief(p.B) + "]"
	}
	return strings.TrimSpace(s)
}

// pairs reads pairs.
func pairsOf(s string) []pattern.Pair {
	var l []pattern.Pair
	for _, p := range strings.Split(s, ", ") {
		if a, b, ok := strings.Cut(p, " = "); ok {
			l = append(l, pattern.Pair{A: of(kinds, a), B: of(kinds, b)})
		}
	}
	return l
}

func TestP101First(t *testing.T) {
	for _, x := range []struct {
		pairs string
		depth int
		want  []string
	}{
		{"?F z = z", 5, []string{"F.0=%x:nat. z", "F.0=%x:nat. #0"}}, {"z = ?F z", 5, []string{"F.0=%x:nat. z", "F.0=%x:nat. #0"}}, {"?F z = z", 1, []string{"F.0=%x:nat. z", "F.0=%x:nat. #0"}}, {"?F z = z", 0, nil},
		{"?F (?G z z) = ?G z z", 5, []string{"[?F.0 (?G.0 z z) = ?G.0 z z]"}}, {"?F z = ?F (s z)", 0, []string{"[?F.0 z = ?F.0 (s z)]"}}, {"", 0, []string{""}}, {"z = s z", 9, nil}, {"z = z", 0, []string{""}},
		{"?F z = s z", 2, []string{"F.0=%x:nat. s z", "F.0=%x:nat. s #0"}}, {"?F z = s z", 1, nil}, {"?F (s z) = s z", 1, []string{"F.0=%x:nat. #0"}}, {"?F (s z) = s z", 2, []string{"F.0=%x:nat. s z", "F.0=%x:nat. #0"}},
		{"?F ?x = s ?y", 2, []string{"F.0=%x:nat. s (?H.1 #0) [?H.1 ?x.0 = ?y.0]", "F.0=%x:nat. #0 x.0=s ?y.0"}},
		{"?F $n = $n", 4, []string{"F.0=%x:nat. $n", "F.0=%x:nat. #0"}}, {"?x = s (?F z)", 0, nil}, {"?x = s (?F z)", 1, []string{"x.0=s ?H.1 [?H.1 = ?F.0 z]"}},
		{"%x:N. ?G x z = %x:N. x", 1, []string{"G.0=%x:nat. %x:nat. #1"}}, {"%x:N. ?G x z = %x:N. z", 1, []string{"G.0=%x:nat. %x:nat. z", "G.0=%x:nat. %x:nat. #0"}}, {"%x:N. ?F z = %x:N. x", 5, nil},
		{"(%x:N. ?F x) z = z", 2, []string{"F.0=%x:nat. z", "F.0=%x:nat. #0"}}, {"?x = (%x:N. s x) z", 0, []string{"x.0=s z"}}, {"?F = %x:N. s x", 0, []string{"F.0=%x:nat. s #0"}}, {"%x:N. ?F x = s", 0, []string{"F.0=%x:nat. s #0"}},
		{"?B s = z", 1, []string{"B.0=%x:fun(nat, nat). z"}}, {"?B s = s z", 2, []string{"B.0=%x:fun(nat, nat). s z", "B.0=%x:fun(nat, nat). #0 z"}}, {"?Q s z = s z", 2, []string{"Q.0=%x:fun(nat, nat). %x:nat. s z", "Q.0=%x:fun(nat, nat). %x:nat. s #0", "Q.0=%x:fun(nat, nat). %x:nat. #1 z", "Q.0=%x:fun(nat, nat). %x:nat. #1 #0"}},
		{"?F z = z, ?F (s z) = s z", 5, []string{"F.0=%x:nat. #0"}}, {"?F (s z) = s z, ?F z = z", 5, []string{"F.0=%x:nat. #0"}}, {"?F z = z, ?F (s z) = z", 5, []string{"F.0=%x:nat. z"}},
		{"?F (s z) = s (?F z)", 2, []string{"F.0=%x:nat. s #0", "F.0=%x:nat. #0"}},
		{"?x = ?F ?x", 3, []string{"[?x.0 = ?F.0 ?x.0]"}}, {"?x = ?y", 3, []string{"x.0=?H.1 y.0=?H.1"}}, {"?F z = z, ?x = ?y", 1, []string{"F.0=%x:nat. z x.0=?H.1 y.0=?H.1", "F.0=%x:nat. #0 x.0=?H.1 y.0=?H.1"}},
		{"%x:N. %y:N. c (?F (s y)) (?G x x) = %x:N. %y:N. c (?F (s x)) z", 2, []string{"G.0=%x:nat. %x:nat. z [%x:nat. %x:nat. ?F.0 (s #0) = %x:nat. %x:nat. ?F.0 (s #1)]"}},
	} {
		us, more, e := First(small(), pairsOf(x.pairs), x.depth, 1000)
		var got []string
		for _, u := range us {
			got = append(got, unifierText(u))
		}
		if e != api.OK || more || !slices.Equal(got, x.want) {
			t.Errorf("%s to %d: %d %q", x.pairs, x.depth, e, got)
		}
	}
}

// Where a candidate is of a type that has to be made fit.
func TestP101Types(t *testing.T) {
	poly := "?F: ?a>?b; $n: N; ?J: (?a>?b)>?b; ?x: ?a; ?L: L?a>?b{c}; ?M: (N>N>N)>N>N; ?l: L?a; $m: N>N; $p: P; ?U: P>N>?e{d}"
	for _, x := range []struct {
		a, b  string
		depth int
		want  string
	}{
		{"?F ?x", "$n", 2, "b.0=nat F.0=%x:?a.0. $n | a.0=nat b.0=nat F.0=%x:nat. #0 x.0=$n"},
		{"?J ?F", "$n", 2, "b.0=nat J.0=%x:fun(?a.0, nat). $n | b.0=nat F.0=%x:?a.0. $n J.0=%x:fun(?a.0, nat). #0 (?H.1 #0)"},
		{"?L ?l", "$n", 2, "b.0=nat L.0=%x:list(?a.0). $n"},                                                 // a list is no number
		{"?M c", "$m", 1, "M.0=%x:fun(nat, fun(nat, nat)). $m"},                                             // by depth 2 its projection, too: one argument more
		{"?M c", "c $n", 2, "M.0=%x:fun(nat, fun(nat, nat)). c $n | M.0=%x:fun(nat, fun(nat, nat)). #0 $n"}, // of functions
		{"?F ?x", "$m", 1, "b.0=fun(nat, nat) F.0=%x:?a.0. $m"},                                             // a type variable has no arguments, so it is not tried for functions
	} {
		us, more, e := First(small(), []pattern.Pair{{A: of(poly, x.a), B: of(poly, x.b)}}, x.depth, 10)
		var got []string
		for _, u := range us {
			got = append(got, unifierText(u))
		}
		if e != api.OK || more || strings.Join(got, " | ") != x.want {
			t.Error(x.a, x.b, e, strings.Join(got, " | "))
		}
	}
}

func TestP101Errors(t *testing.T) {
	thy := small()
	bad := api.Term{Op: api.App}
	z := of(kinds, "z")
	grows := of(kinds, strings.Repeat("((%x:N. c x x) ", 30)+"z"+strings.Repeat(")", 30))
	for i, x := range []struct {
		l           []pattern.Pair
		depth, most int
		e           api.Errno
	}{
		{nil, 0, 0, api.OK}, {nil, 60, 1000, api.OK}, {nil, -1, 0, api.ErrRange}, {nil, 61, 0, api.ErrRange}, {nil, 0, -1, api.ErrRange}, {nil, 0, 1001, api.ErrRange},
		{slices.Repeat([]pattern.Pair{{A: z, B: z}}, 50), 0, 0, api.OK}, {slices.Repeat([]pattern.Pair{{A: bad, B: z}}, 51), -1, -1, api.ErrCount},
		{[]pattern.Pair{{A: bad, B: bound(0)}}, -1, 0, api.ErrForm}, {[]pattern.Pair{{A: z, B: bound(0)}}, -1, 0, term.ErrLoose}, {[]pattern.Pair{{A: grows, B: bound(0)}}, -1, 0, term.ErrLoose},
		{[]pattern.Pair{{A: grows, B: z}}, -1, 0, api.ErrFuel}, {[]pattern.Pair{{A: z, B: grows}}, 1, 1, api.ErrFuel},
		{[]pattern.Pair{{A: grows, B: of("?x: N", "?x")}, {A: z, B: of("?x: P", "?x")}}, 0, 0, api.ErrType}, {[]pattern.Pair{{A: z, B: of("?x: ?a", "?x")}, {A: z, B: of("?y: ?a{c}", "?y")}, {A: z, B: of("?x: P", "?x")}}, 0, 0, api.ErrSort},
		{pairsOf("?F z = z"), 1, 1, api.OK}, {pairsOf("(%x:N. ?F x) z = z"), 1, 1, api.OK}, // no patterns
	} {
		us, more, e := First(thy, x.l, x.depth, x.most)
		if e != x.e || e != api.OK && (us != nil || more) {
			t.Error(i, e)
		}
		for range All(thy, x.l, x.depth) {
			if e != api.OK && (e != api.ErrRange || x.depth < 0 || x.depth > 60) {
				t.Error(i, "with an error there is none")
			}
			break
		}
		_, _, ok, f := Simplify(thy, x.l)
		if e != api.ErrRange && (f != x.e || ok && e != api.OK) {
			t.Error(i, ok, f)
		}
	}
	thy.Classes[0].Name = ""
	if _, _, e := First(thy, []pattern.Pair{{A: bad, B: z}}, 0, 0); e != sort.ErrName {
		t.Error(e)
	}
	if us, _, e := First(thy, nil, 0, 1); e != api.OK || len(us) != 1 {
		t.Error("without terms the theory plays no part", e)
	}
	thy = small()
	thy.Types = thy.Types[1:]
	thy.Consts = thy.Consts[:1]
	if us, _, e := First(thy, pairsOf("%x:N. x = %x:N. x"), 0, 1); e != api.OK || len(us) != 0 {
		t.Error("types that are none fail", e)
	}
}

func TestP101Limits(t *testing.T) {
	thy := small()
	// 40 pairs of five flexible ones each, and one more
	five := "$g ?x (?F ?x) (?F ?x) (?F ?x) (?F ?x)"
	other := "$g (?F ?y) (?F ?y) (?F ?y) (?F ?y) (?F ?y)"
	l := slices.Repeat(pairsOf(five+" = "+other), 40)
	for n, want := range map[int]int{0: 1, 1: 0} {
		us, _, e := First(thy, append(slices.Clone(l), slices.Repeat(pairsOf("z = z"), n)...), 0, 2)
		if e != api.OK || len(us) != want || want == 1 && len(us[0].Flex) != MaxPairs {
			t.Error(n, e, len(us))
		}
	}
	// a search ends when it has made 3000 candidates
	tree := "z"
	for range 4 {
		tree = "(c " + tree + " " + tree + ")"
	}
	tree = "(c " + tree + " (s z))"
	all := pairsOf("?F z = " + tree)
	us, _, e := First(thy, all, 60, 1000)
	want, ok := naiveFirst(thy, all, 60, 1001)
	if e != api.OK || !ok || len(us) != len(want) || len(us) < 500 || len(us) == 1000 {
		t.Error(e, ok, len(us), len(want))
	}
	// most
	all = pairsOf("?F z = " + tree + ", ?H z = z")
	some, more, e := First(thy, all, 60, 500)
	if e != api.OK || !more || len(some) != 500 {
		t.Error(e, more, len(some))
	}
	none, more, e := First(thy, all, 60, 0)
	if e != api.OK || !more || len(none) != 0 {
		t.Error(e, more)
	}
	// a bind that is too deep is a failure
	tower := func(n int, s string) string { return strings.Repeat("(s ", n) + s + strings.Repeat(")", n) }
	for n, want := range map[int]int{249: 1, 250: 0} {
		us, _, e := First(thy, pairsOf("?x = "+tower(250, "?y")+", ?y = "+tower(n, "z")), 0, 1)
		if e != api.OK || len(us) != want {
			t.Error(n, e, len(us))
		}
	}
	// a pair that is left is too deep
	for n, want := range map[int]int{248: 1, 249: 0} {
		us, _, e := First(thy, pairsOf("?F "+tower(250, "?y")+" = ?F z, ?y = "+tower(n, "z")), 0, 1)
		if e != api.OK || len(us) != want {
			t.Error(n, e, len(us))
		}
		_, left, ok, e := Simplify(thy, pairsOf("?F "+tower(250, "?y")+" = ?F z, ?y = "+tower(n, "z")))
		if e != api.OK || ok != (want == 1) || len(left) != want {
			t.Error(n, e, len(left))
		}
	}
}

// Terms whose normal forms would be beyond any bound are looked at only as far as needed.
func TestP101Beyond(t *testing.T) {
	k := "?A: ((N>N)>N>N)>(N>N)>N>N; ?C: (N>N)>N>N; ?F: N>N; $n: N"
	two := "(%f:N>N. %x:N. f (f x))"
	nested := "?C s z"
	for range 30 {
		nested = strings.Replace(nested, "?C", "(?A ?C)", 1)
	}
	l := []pattern.Pair{{A: of(k, "?C"), B: of(k, two)}, {A: of(k, "?A"), B: of(k, "%g:(N>N)>N>N. %f:N>N. g (g f)")}, {A: of(k, nested), B: of(k, "z")}}
	us, _, e := First(small(), l, 3, 1)
	if e != api.OK || len(us) != 0 {
		t.Error(e, len(us))
	}
}

func TestP101Simplify(t *testing.T) {
	for _, x := range []struct {
		pairs, want, left string
		ok                bool
	}{
		{"", "", "", true}, {"z = s z", "", "", false}, {"?F z = z", "", "?F.0 z  =  z\n", true}, {"c (?F z) ?x = c z (s z)", "x.0=s z", "?F.0 z  =  z\n", true}, {"c (?F z) (?F $n) = c z (?H.5 (s z))", "", "?F.0 z  =  z\n?F.0 $n  =  ?H.5 (s z)\n", true},
		{"c (?F z) (b ?F) = c z (b s)", "", "", false}, {"c (?F z) (b ?F) = c (s z) (b s)", "F.0=s", "", true}, {"?F z = z, ?F = %x:N. s x", "", "", false}, {"?F z = s z, ?F = %x:N. s x", "F.0=%x:nat. s #0", "", true}, {"%x:N. ?F (s x) = %y:N. s y", "", "%x:nat. ?F.0 (s #0)  =  %x:nat. s #0\n", true},
		{"?B s = z, %x:N. %f:N>N. ?F (f x) = %x:N. %f:N>N. z", "", "?B.0 s  =  z\n%x:nat. %x:fun(nat, nat). ?F.0 (#0 #1)  =  %x:nat. %x:fun(nat, nat). z\n", true},
		{"%x:N. ?F x = s", "F.0=%x:nat. s #0", "", true}, {"?x = ?y, c ?x ?y = c (?F ?x) (s z)", "x.0=s z y.0=s z", "s z  =  ?F.0 (s z)\n", true},
	} {
		l := pairsOf(x.pairs)
		i, left, ok, e := Simplify(small(), l)
		if e != api.OK || ok != x.ok || instText(i) != x.want || pairText(left) != x.left {
			t.Errorf("%s: %d %v %s %q", x.pairs, e, ok, instText(i), pairText(left))
		}
	}
}

func TestP101Close(t *testing.T) {
	thy := small()
	u := func(inst string, flex string) Unifier {
		var x Unifier
		for _, s := range strings.Split(inst, ", ") {
			if name, to, ok := strings.Cut(s, "="); ok {
				x.Inst.Terms = append(x.Inst.Terms, api.TermBind{Name: name, To: of(kinds, to)})
			}
		}
		x.Flex = pairsOf(flex)
		return x
	}
	for i, x := range []struct {
		u    Unifier
		want string
		e    api.Errno
	}{
		{Unifier{}, "", api.OK}, {u("x=s z", ""), "x.0=s z", api.OK}, {u("", "?F z = ?G z z"), "F.0=%x:nat. ?H.1 G.0=%x:nat. %x:nat. ?H.1", api.OK}, {u("x=?F z", "%x:N. ?F x = %x:N. ?H.5 z, ?F (?x) = ?x"), "x.0=(%x:nat. ?H.6) z F.0=%x:nat. ?H.6 H.5=%x:nat. ?H.6", api.OK},
		{u("", "?P z = ?P (?F z)"), "P.0=%x:nat. ?H.1", api.OK}, {u("", "?P z = ?P z, ?F z = ?x, ?P ?x = ?P ?y"), "P.0=%x:nat. ?H.1 F.0=%x:nat. ?H.2 x.0=?H.2", api.OK}, {u("", "?F = ?F"), "F.0=%x:nat. ?H.1", api.OK}, {u("", "?T z = ?v"), "T.0=%x:nat. ?H.1 v.0=?H.1", api.OK},
		{u("", "?F z = z"), "", api.ErrArgument}, {u("", "?F z = (%x:N. ?F x) z"), "", api.ErrArgument}, {u("x=z, x=z", ""), "", api.ErrDuplicate}, {u("x=z, x=z", "?F z = z"), "", api.ErrArgument}, {u("F=s", "?F z = ?x"), "F.0=s x.0=?H.1", api.OK},
		{Unifier{Inst: api.Inst{Terms: []api.TermBind{{Name: "x"}, {Name: "y", To: bound(0)}}}, Flex: []pattern.Pair{{}}}, "", api.ErrForm}, {Unifier{Flex: []pattern.Pair{{A: of(kinds, "z"), B: bound(0)}}}, "", term.ErrLoose},
		{Unifier{Inst: api.Inst{Types: []api.TypeBind{{Name: "a"}, {Name: "a"}}}}, "", api.ErrDuplicate}, {Unifier{Inst: api.Inst{Types: []api.TypeBind{{Name: "a", Index: -5}}}}, "a.-5=", api.OK},
		{Unifier{Flex: []pattern.Pair{{A: of("?x: N; ?y: P", "?x"), B: of("?x: N", "?x")}, {A: of("?x: P", "?x"), B: of("?x: P", "?x")}}}, "x.0=?H.1", api.OK},
	} {
		got, e := Close(thy, x.u)
		if e != x.e || instText(got) != x.want {
			t.Error(i, e, instText(got))
		}
	}
	thy.Classes[0].Name = ""
	if _, e := Close(thy, u("x=z", "")); e != sort.ErrName {
		t.Error(e)
	}
	if _, e := Close(thy, Unifier{}); e != api.OK {
		t.Error("without terms", e)
	}
}

// Sequences keep nothing of the pairs; results share no memory.
func TestP101NewMemory(t *testing.T) {
	l := pairsOf("?F $n = $n")
	all := All(small(), l, 3)
	l[0].A.Kids[1].Name, l[0].B.Name = "spoilt", "spoilt"
	n := 0
	for u := range all {
		if s := unifierText(u); s != []string{"F.0=%x:nat. $n", "F.0=%x:nat. #0"}[n] {
			t.Error(s)
		}
		u.Inst.Terms[0].To.Kids[0].Name = "spoilt"
		n++
	}
	for u := range all {
		if s := unifierText(u); !strings.Contains(s, "$n") {
			t.Error(s)
		}
		break
	}
	i, left, _, _ := Simplify(small(), pairsOf("?F z = z, ?x = s z"))
	left[0].B.Name, i.Terms[0].To.Kids[1].Name = "spoilt", "spoilt"
	if _, left, _, _ := Simplify(small(), pairsOf("?F z = z, ?x = s z")); brief(left[0].B) != "z" {
		t.Error("shared")
	}
}
