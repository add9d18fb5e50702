package resolve

import (
	"fmt"
	"slices"
	"strings"
	"testing"

	"triforium/api"
	"triforium/derive"
	"triforium/kernel"
	"triforium/term"
	"triforium/theory"
	"triforium/types"
)

const kinds = "?x: N; ?y: N; ?P: P; ?Q: P; ?R: P; ?F: N>P; ?G: N>N; $n: N; $m: N; $A: P; $B: P; ?x.1: N; All: (N>P)>P; Ex: (N>P)>P; ?T: ?a>P; ?u: ?a; ?L: N>N>P; e: ?a>?a>P; e': N>N>P"

// by returns the theorem `hyps |- prop` of a text.
func by(s string) kernel.Theorem { return stated(kinds, s) }

// results returns what the first resolvents state.
func results(rule, state string, at, kind int) string {
	l, _, e := First(by(rule), at, by(state), kind, 8, 20)
	if e != api.OK {
		return fmt.Sprint("error ", e)
	}
	var out []string
	for _, t := range l {
		if !taken(t) {
			out = append(out, "not taken")
		}
		out = append(out, theoremText(t))
	}
	return strings.Join(out, " | ")
}

func TestP121Rule(t *testing.T) {
	for _, x := range []struct{ rule, state, want string }{
		{"p ?x ==> q ?x", "q a ==> q a", "p a ==> q a"}, {"?P ==> ?Q ==> And ?P ?Q", "And A B ==> C", "A ==> B ==> C"}, {"A", "A ==> B", "B"}, {"A", "B ==> B", ""}, {"A", "A", "error 140"}, {"C", "B ==> A ==> B", ""},
		{"(!!x:N. ?F x) ==> All ?F", "All (%k:N. All (%y:N. r k y)) ==> C", "(!!x:nat. All (%y:nat. r #1 #0)) ==> C"}, {"?F ?x ==> Ex ?F", "Ex (%k:N. r k a) ==> C", "r ?x.0 a ==> C"},
		{"All ?F ==> ?F ?x", "r a b ==> C", "All (%x:nat. r a b) ==> C | All (%x:nat. r a #0) ==> C | All (%x:nat. r #0 b) ==> C"},
		// over parameters and assumptions
		{"?P ==> ?Q ==> And ?P ?Q", "(!!v:N. p v ==> And (p v) B) ==> C", "(!!v:nat. p #0 ==> p #0) ==> (!!v:nat. p #0 ==> B) ==> C"}, {"?F ?x ==> Ex ?F", "(!!v:N. Ex (%k:N. r k v)) ==> C", "(!!v:nat. r (?x.0 #0) #0) ==> C"},
		{"(!!x:N. ?F x) ==> All ?F", "(!!v:N. p v ==> All (%k:N. r k v)) ==> C", "(!!v:nat. !!x:nat. p #1 ==> r #0 #1) ==> C"}, // flat
		{"(A ==> !!x:N. p x ==> q x) ==> ?P", "(B ==> !!y:N. p y ==> C) ==> C", "(!!y:nat. !!x:nat. B ==> p #1 ==> A ==> p #0 ==> q #0) ==> C"},
		{"(!!x:N. p x ==> A) ==> B", "(A ==> B) ==> C", "(!!x:nat. A ==> p #0 ==> A) ==> C"}, {"A", "(!!v:N. B ==> !!w:N. A) ==> C", "C"},
		// what becomes an implication by the unifier stays where it is
		{"?P ==> h ?G", "h s ==> B", "?P.0 ==> B"}, {"?P ==> ?P", "(A ==> B) ==> C", "(A ==> B) ==> C"}, {"?P ==> And ?P ?Q", "And (!!x:N. p x) (A ==> B) ==> C", "(!!x:nat. p #0) ==> C"}, {"?P ==> And ?P ?Q", "(A ==> And (B ==> !!x:N. p x) A) ==> C", "(A ==> B ==> !!x:nat. p #0) ==> C"},
		// indices
		{"p ?x ==> q ?x", "q ?x ==> p ?x", "p ?H.2 ==> p ?H.2"}, {"q ?y ==> p ?x", "p ?x ==> q ?x", "q ?y.1 ==> q ?H.2"}, {"p ?y ==> q a", "q ?x.1 ==> r ?x.1 ?y", "p ?y.2 ==> r a ?y.0"},
		// eta, and beta
		{"h ?G", "h (%k:N. s k) ==> A", "A"}, {"h s", "h (%k:N. s k) ==> A", "A"}, {"A ==> h (%k:N. s k)", "(!!v:N. h s) ==> A", "(!!v:nat. A) ==> A"}, {"q ((%k:N. k) z)", "q z ==> p ((%k:N. s k) a)", "p (s a)"}, {"?F ((%k:N. k) a) ==> All ?F", "All (%k:N. q k) ==> (%k:N. p k) z", "q a ==> p z"}, {"All (%k:N. p k)", "All p ==> All (%k:N. q k)", "All (%k:nat. q #0)"},
		// types: e is of the type ?a > ?a > P in the rule, and e' is the same of N > N > P
		{"?T ?u ==> e ?u ?u", "e' z z ==> A", "?T.0 z ==> A"}, {"A ==> ?T ?u", "p z ==> A", "A ==> A | A ==> A | A ==> A"},
	} {
		if got := results(x.rule, x.state, 0, Rule); got != x.want && x.want != "" || x.want == "" && got != "" {
			t.Error(x.rule, "|", x.state, ":", got)
		}
	}
	for _, x := range []struct {
		rule, state string
		at          int
		want        string
	}{
		{"p ?x ==> q ?x", "A ==> q a ==> q b ==> B", 1, "A ==> p a ==> q b ==> B"}, {"p ?x ==> q ?x", "A ==> q a ==> q b ==> B", 2, "A ==> q a ==> p b ==> B"}, {"p ?x ==> q ?x", "A ==> q a ==> q b ==> B", 0, ""}, {"p ?x ==> q ?x", "A ==> q a ==> q b ==> B", 3, "error 140"}, {"p ?x ==> q ?x", "A ==> q a ==> q b ==> B", -1, "error 140"},
		{"p ?x ==> A ==> q ?x", "p ?x ==> q ?x ==> q ?x ==> p ?x", 1, "p ?H.2 ==> p ?H.2 ==> A ==> q ?H.2 ==> p ?H.2"},
	} {
		if got := results(x.rule, x.state, x.at, Rule); got != x.want {
			t.Error(x.rule, "|", x.state, x.at, ":", got)
		}
	}
}

func TestP121EruleDrule(t *testing.T) {
	const conjE = "And ?P ?Q ==> (?P ==> ?Q ==> ?R) ==> ?R"
	for _, x := range []struct {
		rule, state string
		kind        int
		want        string
	}{
		{conjE, "(And A B ==> C) ==> C", Erule, "(A ==> B ==> C) ==> C"}, {conjE, "(p z ==> And A B ==> q z ==> And B C ==> C) ==> C", Erule, "(p z ==> q z ==> And B C ==> A ==> B ==> C) ==> C | (p z ==> And A B ==> q z ==> B ==> C ==> C) ==> C"},
		{conjE, "(!!v:N. And (p v) B ==> q v) ==> C", Erule, "(!!v:nat. p #0 ==> B ==> q #0) ==> C"}, {conjE, "(A ==> C) ==> C", Erule, ""}, {conjE, "C ==> C", Erule, ""}, {"A", "(A ==> A) ==> C", Erule, ""}, {"A", "(A ==> A) ==> C", Drule, ""},
		{"And ?P ?Q ==> ?P", "(And A B ==> C) ==> C", Drule, "(A ==> C) ==> C"}, {"And ?P ?Q ==> ?P", "(p z ==> And A B ==> q z ==> C) ==> C", Drule, "(p z ==> q z ==> A ==> C) ==> C"}, {"And ?P ?Q ==> ?P ==> p z ==> ?Q", "(And A B ==> B ==> C) ==> C", Drule, "(B ==> A) ==> (B ==> p z) ==> (B ==> B ==> C) ==> C"},
		{"And ?P ?Q ==> p z ==> ?R ==> ?R", "(And A B ==> C) ==> A", Erule, "p z ==> C ==> A"}, {"All ?F ==> ?F ?x", "(!!v:N. All (%k:N. r v k) ==> B) ==> C", Drule, "(!!v:nat. r #0 (?x.0 #0) ==> B) ==> C"},
		{"Ex ?F ==> (!!x:N. ?F x ==> ?Q) ==> ?Q", "(!!v:N. A ==> Ex (%k:N. r v k) ==> B) ==> C", Erule, "(!!v:nat. !!x:nat. A ==> r #1 #0 ==> B) ==> C"},
		{"h s ==> A", "(h (%k:N. s k) ==> B) ==> C", Drule, "(A ==> B) ==> C"}, {"h s ==> ?P ==> ?P", "(h (%k:N. s k) ==> B) ==> C", Erule, "B ==> C"}, {"A ==> B", "(A ==> A ==> C) ==> C", Drule, "(A ==> B ==> C) ==> C | (A ==> B ==> C) ==> C"},
		{"A ==> !!x:N. p x", "(A ==> C) ==> C", Drule, "((!!x:nat. p #0) ==> C) ==> C"}, {"A ==> B", "(A ==> !!x:N. p x ==> C) ==> C", Drule, "(!!x:nat. p #0 ==> B ==> C) ==> C"},
	} {
		if got := results(x.rule, x.state, 0, x.kind); got != x.want {
			t.Error(x.rule, "|", x.state, ":", got)
		}
	}
}

func TestP121Assumption(t *testing.T) {
	for _, x := range []struct {
		state string
		at    int
		want  string
	}{
		{"(A ==> A) ==> B", 0, "B"}, {"(A ==> B) ==> B", 0, ""}, {"A ==> B", 0, ""}, {"A ==> (A ==> A) ==> B", 1, "A ==> B"}, {"A ==> (A ==> A) ==> B", 2, "error 140"}, {"(p ?x ==> p a ==> p b ==> p ?x) ==> q ?x", 0, "q ?x.0 | q a | q b"},
		{"(!!v:N. p v ==> q v ==> p v) ==> B", 0, "B"}, {"(!!v:N. p v ==> !!w:N. p w ==> p w) ==> B", 0, "B"}, {"(!!v:N. p v ==> !!w:N. p w ==> p v) ==> B", 0, "B"}, {"(!!v:N. p v ==> ?F v) ==> All ?F", 0, "All (%x:nat. p #0)"}, {"(!!v:N. p ?x ==> p v) ==> q ?x", 0, ""},
		{"(h s ==> h (%k:N. s k)) ==> B", 0, "B"}, {"(!!v:N. h (%k:N. s k) ==> h s) ==> (%k:N. p k) z", 0, "p z"}, {"(p ((%k:N. k) z) ==> p z) ==> B", 0, "B"},
	} {
		l, more, e := Solved(x.at, by(x.state), 8, 20)
		var out []string
		for _, r := range l {
			if !taken(r) {
				t.Error("not taken")
			}
			out = append(out, theoremText(r))
		}
		got := strings.Join(out, " | ")
		if e != api.OK {
			got = fmt.Sprint("error ", e)
		}
		if got != x.want || more {
			t.Error(x.state, got)
		}
	}
	if _, _, e := Solved(0, kernel.Theorem{}, -1, 0); e != kernel.ErrNone {
		t.Error(e)
	}
	for i, x := range []struct{ at, depth, most int }{{0, -1, 0}, {0, 61, 0}, {0, 0, -1}, {0, 0, 1001}} {
		if _, _, e := Solved(x.at, by("A ==> B"), x.depth, x.most); e != api.ErrRange {
			t.Error(i, e)
		}
		if _, _, e := Solved(7, by("A ==> B"), x.depth, x.most); e != ErrSubgoal {
			t.Error(i, e)
		}
	}
}

// Hypotheses and oracles of both stay, also where one of them is a subgoal, or is assumed in the proof.
func TestP121Hypotheses(t *testing.T) {
	for _, x := range []struct {
		rule, state string
		at, kind    int
		want        string
	}{
		{"A; p $n |- p ?x ==> q ?x", "B |- q a ==> q a", 0, Rule, "B; p $n; A |- p a ==> q a"}, {"p a |- p ?x ==> q ?x", "q a ==> q a", 0, Rule, "p a |- p a ==> q a"}, {"p ?x ==> q ?x", "p a |- q a ==> q a", 0, Rule, "p a |- p a ==> q a"}, {"C |- p ?x ==> q ?x", "C ==> (C ==> q a) ==> q a", 1, Rule, "C |- C ==> (C ==> p a) ==> q a"},
		{"C |- p ?x ==> q ?x", "C |- C ==> (C ==> q a) ==> q a", 1, Rule, "C |- C ==> (C ==> p a) ==> q a"}, {"B |- A ==> B ==> C", "A; B; A ==> B ==> C |- (A ==> B ==> C) ==> C", 0, Erule, "A; B; A ==> B ==> C |- (B ==> B) ==> C"},
		{"q ?x |- p ?x ==> q ?x", "q a ==> q a", 0, Rule, "q a |- p a ==> q a"}, {"p ?x ==> q ?x", "p ?x |- q ?x ==> B", 0, Rule, "p ?H.2 |- p ?H.2 ==> B"}, {"q ?x |- A", "(!!x:N. A) ==> A", 0, Rule, "error 16"}, {"q ?x |- A", "(B ==> A) ==> A", 0, Rule, "q ?x.0 |- A"},
	} {
		got := results(x.rule, x.state, x.at, x.kind)
		if !sameHyps(got, x.want) {
			t.Error(x.rule, "|", x.state, ":", got)
		}
	}
	l, _, _ := First(derive.Must(kernel.Oracle(little(), "orc2", of(kinds, "A ==> B"))), 0, by("B ==> C"), Rule, 1, 1)
	if len(l) != 1 || !slices.Equal(l[0].Oracles(), []string{"orc", "orc2"}) {
		t.Error("oracles")
	}
	// behind the instantiation they are not made normal
	l, _, _ = First(by("p (?G z) |- q (?G z)"), 0, by("q a ==> B"), Rule, 2, 5)
	if len(l) != 1 || theoremText(l[0]) != "p ((%x:nat. a) z) |- B" || !taken(l[0]) {
		t.Error(theoremText(l[0]))
	}
}

// sameHyps compares texts of theorems, whose hypotheses are in an order of their own.
func sameHyps(a, b string) bool {
	split := func(s string) string {
		h, p, ok := strings.Cut(s, " |- ")
		if !ok {
			return s
		}
		l := strings.Split(h, "; ")
		slices.Sort(l)
		return strings.Join(l, "; ") + " |- " + p
	}
	return split(a) == split(b)
}

func TestP121Errors(t *testing.T) {
	thy := little()
	more, _ := theory.Extend(thy, "More", api.Theory{Consts: []api.ConstDecl{{Name: "c1", Type: types.Prop()}}})
	other, _ := theory.Extend(thy, "Other", api.Theory{Consts: []api.ConstDecl{{Name: "c2", Type: types.Prop()}}})
	in := func(thy api.Theory, s string) kernel.Theorem { return derive.Must(kernel.Transfer(thy, by(s))) }
	none, rule, state := kernel.Theorem{}, by("p ?x ==> q ?x"), by("q a ==> B")
	param := by("(!!v:N. q v) ==> B")
	with := func(kinds, s string) kernel.Theorem { return stated(kinds, s) }
	for i, x := range []struct {
		rule        kernel.Theorem
		at          int
		state       kernel.Theorem
		kind, depth int
		most        int
		e           api.Errno
	}{
		{rule, 0, state, Rule, 0, 0, api.OK}, {none, -1, none, 0, -1, -1, kernel.ErrNone}, {rule, -1, none, 0, -1, -1, kernel.ErrNone}, {none, -1, state, 0, -1, -1, kernel.ErrNone},
		{in(more, "A"), -1, in(other, "B ==> C"), 0, -1, -1, api.ErrTheory}, {in(more, "A"), 0, in(thy, "A ==> C"), Rule, 1, 1, api.OK}, {in(thy, "A"), 0, in(more, "A ==> C"), Rule, 1, 1, api.OK},
		{with("$n: N", "p $n"), -1, with("$n: P", "$n ==> A"), 0, -1, -1, api.ErrType}, {with("$n: N; $k: 'a{c}; o: 'a{c}>P", "o $k"), -1, with("$k: 'a; e: 'a>'a>P", "e $k $k ==> A"), 0, -1, -1, api.ErrSort}, {with("?x: N", "p ?x"), -1, with("?x: P", "?x ==> A"), 0, -1, -1, api.ErrType}, {with("?k: ?a{c}; o: ?a{c}>P", "o ?k"), -1, with("?k: ?a; e: ?a>?a>P", "e ?k ?k ==> A"), 0, -1, -1, api.ErrSort},
		{rule, -1, state, 0, -1, -1, api.ErrArgument}, {rule, -1, state, 4, -1, -1, api.ErrArgument}, {rule, -1, state, Rule, -1, -1, ErrSubgoal}, {rule, 1, state, Drule, -1, -1, ErrSubgoal}, {rule, 0, by("A"), Erule, 0, 0, ErrSubgoal},
		{rule, 0, state, Rule, -1, 0, api.ErrRange}, {rule, 0, state, Rule, 61, 0, api.ErrRange}, {rule, 0, state, Rule, 60, 1000, api.OK}, {rule, 0, state, Rule, 0, -1, api.ErrRange}, {rule, 0, state, Rule, 0, 1001, api.ErrRange},
		{by("q ?x |- A"), 0, param, Rule, -1, 0, api.ErrRange}, {by("q ?x |- A"), 0, param, Rule, 0, 0, api.ErrFail}, {by("q $n |- A"), 0, param, Rule, 0, 0, api.OK}, {by("q ?x |- A"), 0, by("(A ==> B) ==> B"), Rule, 0, 0, api.OK},
	} {
		l, more, e := First(x.rule, x.at, x.state, x.kind, x.depth, x.most)
		if e != x.e || e != api.OK && (l != nil || more) {
			t.Error(i, e, x.e)
		}
		for range Compose(x.rule, x.at, x.state, x.kind, x.depth) {
			if e != api.OK && (e != api.ErrRange || x.most == 0) {
				t.Error(i, "an error")
			}
		}
	}
	// the theory of the result is the greater one
	for i, x := range [][2]kernel.Theorem{{in(more, "A"), in(thy, "A ==> C")}, {in(thy, "A"), in(more, "A ==> C")}} {
		l, _, _ := First(x[0], 0, x[1], Rule, 1, 1)
		lifted, e := Lift(x[0], 0, x[1])
		if len(l) != 1 || l[0].Theory().Name != "More" || e != api.OK || lifted.Theory().Name != "More" {
			t.Error(i, e)
		}
	}
}

// The error of two theorems is that of the rule and the state as they are given: raised, the rule would have other variables.
func TestP121TwoTheorems(t *testing.T) {
	const sorted = "?u: ?a{c}; $u: 'a{c}; o: ?a{c}>P"
	in := func(kinds, s string) kernel.Theorem { return stated(kinds, s) }
	for i, x := range []struct {
		rule, state kernel.Theorem
		e           api.Errno
	}{
		{in("?x: N", "p ?x ==> p ?x"), in("?x: 'a; $z: 'a; e: 'a>'a>P", "A ==> e $z ?x"), api.ErrType}, {in("?x: N", "p ?x ==> p ?x"), in("?x: ?a; e: ?a>?a>P", "A ==> e ?x ?x"), api.ErrType}, {in("?x: N", "p ?x |- A"), in("?x: P", "A ==> ?x"), api.ErrType}, {in("?x: N", "p ?x"), in("?x: P", "?x |- A ==> B"), api.ErrType}, {in("$n: N", "p $n"), in("$n: P", "A ==> $n"), api.ErrType}, {in("?x.1: N", "p ?x.1"), in("?x.1: P", "A ==> ?x.1"), api.ErrType}, {in("$f: ?a; e: ?a>?a>P", "e $f $f"), in("$f: ?a.1; e: ?a.1>?a.1>P", "A ==> e $f $f"), api.ErrType},
		{in(sorted, "o ?u ==> A"), in("?v: ?a; e: ?a>?a>P", "A ==> e ?v ?v"), api.ErrSort}, {in("?v: ?a; e: ?a>?a>P", "A ==> e ?v ?v"), in(sorted, "o ?u ==> A"), api.ErrSort}, {in("$u: 'a{c}; o: 'a{c}>P", "o $u"), in("$v: 'a; e: 'a>'a>P", "A ==> e $v $v"), api.ErrSort},
		{in(sorted+"; ?x: N", "o ?u ==> p ?x"), in("?u: ?a; ?x: P; e: ?a>?a>P", "?x ==> e ?u ?u"), api.ErrSort}, // and types
		{in("?x: N", "p ?x"), in("?x.1: P", "A ==> ?x.1"), api.OK}, {in("?x.1: N", "p ?x.1"), in("?x: P", "A ==> ?x"), api.OK}, {in("?x: N", "p ?x"), in("$x: P", "A ==> $x"), api.OK}, {in("?x: N", "p ?x"), in("?x: N", "A ==> q ?x"), api.OK}, {in(sorted, "o ?u"), in("?v: ?a.1; e: ?a.1>?a.1>P", "A ==> e ?v ?v"), api.OK}, {in(sorted, "o ?u"), in("?v: 'a; e: 'a>'a>P", "A ==> e ?v ?v"), api.OK}, {in("$f: ?a; e: ?a>?a>P", "e $f $f"), in("$f: ?a; e: ?a>?a>P", "A ==> e $f $f"), api.OK},
	} {
		if e := twoTheorems(x.rule, x.state); e != x.e {
			t.Error(i, "of layer 6:", e)
		}
		raised, e := Raised(x.rule, x.state)
		if e != x.e || raised.Is() != (e == api.OK) {
			t.Error(i, "Raised:", e)
		}
		lifted, e := Lift(x.rule, 0, x.state)
		if e != x.e || lifted.Is() != (e == api.OK) {
			t.Error(i, "Lift:", e)
		}
		for kind := Rule; kind <= Drule; kind++ {
			if l, more, e := First(x.rule, 0, x.state, kind, 3, 5); e != x.e || e != api.OK && (len(l) > 0 || more) {
				t.Error(i, "First:", kind, e)
			}
			for range Compose(x.rule, 0, x.state, kind, 3) {
				if x.e != api.OK {
					t.Error(i, "Compose:", kind)
				}
			}
		}
		if x.e == api.OK {
			continue
		}
		// ahead of all other errors
		_, a := Lift(x.rule, -1, x.state)
		_, _, b := First(x.rule, -1, x.state, 0, -1, -1)
		c, d := Of(x.state, x.rule, -1)
		if a != x.e || b != x.e || c.Is() || d != x.e {
			t.Error(i, a, b, d)
		}
	}
}

// A Free whose type has a TVar has another type in the raised rule: what has both of them is no theorem.
func TestP121RaisedTypes(t *testing.T) {
	const kinds = "$f: ?a; ?u: ?a; e: ?a>?a>P; ?P: P"
	for i, x := range []struct {
		rule, state string
		n           int
		lift        api.Errno
	}{
		{"e $f $f", "e $f $f ==> A", 0, api.OK}, {"e $f $f ==> A", "A ==> e $f $f", 0, api.OK}, {"e $f $f ==> A", "A ==> B", 1, api.OK}, {"A ==> A", "A ==> e $f $f", 1, api.OK},
		{"e $f $f", "(e $f $f ==> A) ==> B", 0, api.ErrType}, {"e $f $f |- A", "A ==> e $f $f", 0, api.OK}, {"e $f $f |- A", "(e $f $f ==> A) ==> B", 0, api.ErrType}, {"(%k:?a. A) $f", "A ==> e $f $f", 1, api.OK},
	} {
		rule, state := stated(kinds, x.rule), stated(kinds, x.state)
		l, more, e := First(rule, 0, state, Rule, 3, 5)
		if e != api.OK || more || len(l) != x.n {
			t.Error(i, e, len(l))
		}
		for _, r := range l {
			if !taken(r) {
				t.Error(i, "not taken")
			}
		}
		r, e := Raised(rule, state)
		if e != api.OK || !taken(r) {
			t.Error(i, e)
		}
		r, e = Lift(rule, 0, state)
		if e != x.lift || r.Is() != (e == api.OK) || r.Is() && !taken(r) {
			t.Error(i, e)
		}
	}
}

func TestP121RaisedLift(t *testing.T) {
	for _, x := range []struct{ rule, state, raised, lifted string }{
		{"p ?x ==> q ?x", "A ==> B", "p ?x.0 ==> q ?x.0", "p ?x.0 ==> q ?x.0"}, {"p ?x ==> q ?x", "p ?x ==> B", "p ?x.1 ==> q ?x.1", "p ?x.1 ==> q ?x.1"}, {"p ?x.1 ==> q ?x", "q ?x.1 |- A ==> B", "p ?x.3 ==> q ?x.2", "p ?x.3 ==> q ?x.2"}, {"A", "p ?x ==> B", "A", "A"},
		{"p ?x ==> q ?x", "(A ==> B) ==> B", "p ?x.0 ==> q ?x.0", "(A ==> p ?x.0) ==> A ==> q ?x.0"}, {"p ?x ==> q ?x", "(!!v:N. r v v ==> !!w:N. A ==> B) ==> B", "p ?x.0 ==> q ?x.0", "(!!v:nat. !!w:nat. r #1 #1 ==> A ==> p (?x.0 #1 #0)) ==> (!!v:nat. !!w:nat. r #1 #1 ==> A ==> q (?x.0 #1 #0))"},
		{"(!!k:N. ?F k) ==> All ?F", "(!!v:N. B) ==> B", "(!!k:nat. ?F.0 #0) ==> All ?F.0", "(!!v:nat. !!k:nat. ?F.0 #1 #0) ==> (!!v:nat. All (?F.0 #0))"}, {"A |- B ==> C", "(A ==> B) ==> B", "A |- B ==> C", "A |- (A ==> B) ==> A ==> C"}, {"A ==> B |- B ==> C", "(A ==> B) ==> B", "A ==> B |- B ==> C", "A ==> B |- (A ==> B) ==> A ==> C"},
		{"p ((%k:N. k) z)", "(A ==> B) ==> B", "p ((%k:nat. #0) z)", "A ==> p ((%k:nat. #0) z)"}, // not normal
	} {
		r, e := Raised(by(x.rule), by(x.state))
		l, f := Lift(by(x.rule), 0, by(x.state))
		got := strings.ReplaceAll(theoremText(l), "==> !!", "==> (!!")
		if strings.Contains(got, "==> (!!") {
			got += ")"
		}
		if e != api.OK || f != api.OK || theoremText(r) != x.raised || got != x.lifted || !taken(r) || !taken(l) {
			t.Error(x.rule, "|", x.state, ":", e, f, theoremText(r), "|", got)
		}
	}
	if _, e := Lift(by("A"), 1, by("A ==> B")); e != ErrSubgoal {
		t.Error(e)
	}
	if _, e := Lift(by("q ?x |- A"), 0, by("(!!v:N. A) ==> B")); e != api.ErrFail {
		t.Error(e)
	}
	if _, e := Raised(by("A"), kernel.Theorem{}); e != kernel.ErrNone {
		t.Error(e)
	}
	// indices that become too great
	high := stated("?x.1000000: N", "p ?x.1000000")
	for i, x := range []struct {
		rule, state kernel.Theorem
		e           api.Errno
	}{{high, by("A ==> B"), api.OK}, {high, by("p ?x ==> B"), api.ErrRange}, {by("A"), derive.Must(kernel.Instantiate(api.Inst{Terms: []api.TermBind{{Name: "x", To: of("?x.1000000: N", "?x.1000000")}}}, by("p ?x ==> B"))), api.OK}, {by("p ?x"), stated("?x.1000000: N", "p ?x.1000000 ==> B"), api.ErrRange}} {
		_, e := Raised(x.rule, x.state)
		_, f := Lift(x.rule, 0, x.state)
		l, _, h := First(x.rule, 0, x.state, Rule, 1, 1)
		if e != x.e || f != x.e || h != api.OK || len(l) > 0 && e != api.OK {
			t.Error(i, e, f, h, len(l))
		}
	}
}

// many returns a proposition that has so many different variables, or type variables.
func many(n int, typed bool) (string, string) {
	kinds, s := "", ""
	for i := range n {
		if typed {
			kinds += fmt.Sprintf("?t%d: ?t%d; ", i, i)
			s += fmt.Sprintf("And (e ?t%d ?t%d) (", i, i)
			continue
		}
		kinds += fmt.Sprintf("?t%d: P; ", i)
		s += fmt.Sprintf("And ?t%d (", i)
	}
	return kinds, s + "A" + strings.Repeat(")", n)
}

func TestP121LiftLimits(t *testing.T) {
	params, none := by("(!!v:N. A) ==> B"), by("A ==> B")
	raise := by("p ?x ==> B")
	for _, n := range []int{100, 101} {
		kinds, s := many(n, false)
		rule := stated(kinds, s)
		want := api.OK
		if n > 100 {
			want = api.ErrCount
		}
		_, a := Lift(rule, 0, params)
		_, b := Lift(rule, 0, none)
		_, c := Lift(rule, 0, raise)
		_, d := Raised(rule, raise)
		_, e := Raised(rule, none)
		if a != want || b != want || c != want || d != want || e != api.OK {
			t.Error(n, a, b, c, d, e)
		}
	}
	for _, n := range []int{100, 101} {
		k, s := "", "A"
		for i := range n {
			k = fmt.Sprintf("(?t%d>P)>(%s)", i, k)
			if i == 0 {
				k = "(?t0>P)>P"
			}
		}
		rule := stated("$f: "+k+"; e: ("+k+")>("+k+")>P", "e $f $f")
		want := api.OK
		if n > 100 {
			want = api.ErrCount
		}
		_, a := Lift(rule, 0, params)
		_, c := Lift(rule, 0, raise)
		_, d := Raised(rule, raise)
		_, e := Raised(rule, none)
		if a != api.OK || c != want || d != want || e != api.OK {
			t.Error(n, s, a, c, d, e)
		}
	}
	// a result that is too large
	tower := func(n int) string { return strings.Repeat("s (", n) + "z" + strings.Repeat(")", n) }
	for _, x := range []struct {
		nest, params int
		e            api.Errno
	}{{497, 0, api.OK}, {470, 12, api.OK}, {470, 14, api.OK}, {470, 15, api.ErrLarge}} {
		state := of(kinds, "A ==> B")
		goal := of(kinds, "A")
		for range x.params {
			goal = term.All(api.Term{Op: api.Free, Name: "v", Type: typ("N")}, goal)
		}
		state.Kids[0].Kids[1] = goal
		l, e := Lift(by("p ("+tower(x.nest)+")"), 0, derive.Must(kernel.Oracle(little(), "orc", state)))
		if e != x.e || l.Is() != (e == api.OK) {
			_, d := term.Size(l.Prop())
			t.Error(x.nest, x.params, e, d)
		}
	}
	wide := func(n int) string { return strings.Repeat("And A (", n) + "A" + strings.Repeat(")", n) } // 4 n + 1 nodes
	for n, want := range map[int]api.Errno{3: api.OK, 4: api.ErrLarge} {
		// 39 premises and a conclusion of 481 nodes, over an assumption of 4 n + 1
		rule := strings.Repeat("("+wide(120)+") ==> ", 39) + wide(120)
		l, e := Lift(by(rule), 0, by("("+wide(n)+" ==> A) ==> B"))
		if nodes, _ := term.Size(l.Prop()); e != want || e == api.OK && nodes != 40*(481+3+13)+39*3 {
			t.Error(n, e, nodes)
		}
	}
	// hypotheses as many as a theorem may have
	rule := by("A ==> B")
	for i := range 500 {
		h := term.Apps(of(kinds, "p"), []api.Term{{Op: api.Free, Name: fmt.Sprint("n", i), Type: typ("N")}})
		rule = derive.Must(kernel.ImpElim(derive.Must(kernel.ImpIntro(h, rule)), derive.Must(kernel.Assume(little(), h))))
	}
	l, e := Lift(rule, 0, params)
	if e != api.OK || len(l.Hyps()) != 500 || !taken(l) {
		t.Error(e)
	}
}

// The limits of resolution: there is no resolvent beyond.
func TestP121ResolutionLimits(t *testing.T) {
	count := func(rule, state kernel.Theorem, kind int) int {
		l, _, e := First(rule, 0, state, kind, 8, 5)
		if e != api.OK {
			t.Error(e)
		}
		for _, x := range l {
			if !taken(x) {
				t.Error("not taken")
			}
		}
		return len(l)
	}
	imps := func(n int) string { return strings.Repeat("A ==> ", n) }
	hyps := func(n int) string {
		var l []string
		for i := range n {
			l = append(l, "p "+strings.Repeat("(s ", i)+"z"+strings.Repeat(")", i))
		}
		return strings.Join(l, "; ") + " |- "
	}
	tower := func(n int) string { return strings.Repeat("(s ", n) + "z" + strings.Repeat(")", n) }
	wide := func(n int) string { return strings.Repeat("(And A ", n) + "A" + strings.Repeat(")", n) }
	for i, x := range []struct {
		rule, state string
		want        int
	}{
		{"A", "A ==> " + imps(80) + "B", 1},
		{"(A ==> A) ==> q z", "q z ==> (" + wide(10) + " ==> A) ==> A", 1},
		{hyps(60) + "A ==> B", hyps(40) + "B ==> C", 1}, {hyps(60) + "A ==> B", hyps(41) + "B ==> C", 0},
		{"q ?x", "q " + tower(96) + " ==> C", 1}, {"q ?x", "q " + tower(97) + " ==> C", 0}, // depth 4 with the imp
		{"p ?x", "p z ==> q " + tower(96) + " ==> C", 0}, {"p ?x", "p z ==> q " + tower(95) + " ==> C", 1},
		{"A", "A ==> And " + wide(20) + " B", 1},
		{"q ?x ==> p ?x", "p " + tower(93) + " ==> C", 1},
	} {
		if n := count(by(x.rule), by(x.state), Rule); n != x.want {
			t.Error(i, n)
		}
	}
	// 200 ==>: in both propositions, wherever they stand
	flatImps := func(n int, t string) api.Term { // no deeper than about 20
		out := of(kinds, t)
		imp := of(kinds, "A ==> A")
		for n > 0 {
			k := min(n, 15)
			part := of(kinds, "A")
			for range k - 1 {
				part = term.Imp(of(kinds, "B"), part)
			}
			out = term.Apps(of(kinds, "And"), []api.Term{term.Imp(part, imp.Kids[1]), out})
			n -= k
		}
		return out
	}
	for n, want := range map[int]int{195: 1, 196: 0} {
		state := derive.Must(kernel.Oracle(little(), "orc", term.Imp(of(kinds, "C"), flatImps(n, "A"))))
		rule := by("A ==> A ==> (A ==> B) ==> C")
		if got := count(rule, state, Rule); got != want {
			t.Error("imps", n, got)
		}
	}
	// 100 Vars, and 100 TVars
	balanced := func(n int, leaf func(i int) api.Term) api.Term {
		l := make([]api.Term, n)
		for i := range l {
			l[i] = leaf(i)
		}
		for len(l) > 1 {
			var next []api.Term
			for i := 0; i+1 < len(l); i += 2 {
				next = append(next, term.Apps(of(kinds, "And"), []api.Term{l[i], l[i+1]}))
			}
			if len(l)%2 == 1 {
				next = append(next, l[len(l)-1])
			}
			l = next
		}
		return l[0]
	}
	for n, want := range map[int]int{90: 1, 91: 0} {
		vars := balanced(n, func(i int) api.Term { return api.Term{Op: api.Var, Name: "v", Num: i, Type: types.Prop()} })
		state := derive.Must(kernel.Oracle(little(), "orc", term.Imp(of(kinds, "C"), vars)))
		ten := balanced(10, func(i int) api.Term { return api.Term{Op: api.Var, Name: "v", Num: i, Type: types.Prop()} })
		rule := derive.Must(kernel.Oracle(little(), "orc", term.Imp(ten, of(kinds, "C"))))
		if got := count(rule, state, Rule); got != want {
			t.Error("Vars", n, got)
		}
		leaf := func(i int) api.Term {
			k := api.Type{Op: api.TVar, Name: "t", Index: i}
			x := api.Term{Op: api.Free, Name: fmt.Sprint("v", i), Type: k}
			return term.Apps(api.Term{Op: api.Const, Name: "e", Type: types.Fun(k, types.Fun(k, types.Prop()))}, []api.Term{x, x})
		}
		state = derive.Must(kernel.Oracle(little(), "orc", term.Imp(of(kinds, "C"), balanced(n, leaf))))
		leaf10 := func(i int) api.Term {
			x := leaf(i)
			x.Kids[0].Kids[1].Name, x.Kids[1].Name = fmt.Sprint("w", i), fmt.Sprint("w", i)
			return x
		}
		rule = derive.Must(kernel.Oracle(little(), "orc", term.Imp(balanced(10, leaf10), of(kinds, "C"))))
		if got := count(rule, state, Rule); got != want {
			t.Error("TVars", n, got)
		}
	}
	// 2000 nodes: of the state, and of the resolvent
	leaf := func(int) api.Term { return of(kinds, "A") }
	for n, want := range map[int]int{499: 1, 500: 0} { // 4 n - 3 + 4 nodes
		state := derive.Must(kernel.Oracle(little(), "orc", term.Imp(of(kinds, "C"), balanced(n, leaf))))
		if got := count(by("C"), state, Rule); got != want {
			t.Error("nodes", n, got)
		}
		state = by("C ==> A")
		rule := derive.Must(kernel.Oracle(little(), "orc", term.Imp(balanced(n, leaf), of(kinds, "C"))))
		if got := count(rule, state, Rule); got != want {
			t.Error("nodes of a rule", n, got)
		}
	}
	for n, want := range map[int]int{249: 1, 250: 0} { // of the resolvent: 4 n - 3, 997, and those of two ==>
		state := derive.Must(kernel.Oracle(little(), "orc", imply([]api.Term{of(kinds, "C"), balanced(250, leaf)}, of(kinds, "A"))))
		rule := derive.Must(kernel.Oracle(little(), "orc", term.Imp(balanced(n, leaf), of(kinds, "C"))))
		if got := count(rule, state, Rule); got != want {
			t.Error("nodes of the resolvent", n, got)
		}
	}
	// a type of a hundred within each other
	for n, want := range map[int]int{98: 1, 99: 0} { // and two of the types of functions
		k := strings.Repeat("L", n-1) + "N"
		state := stated("$k: "+k+"; e: ("+k+")>("+k+")>P", "C ==> e $k $k")
		if got := count(by("C"), state, Rule); got != want {
			t.Error("types", n, got)
		}
	}
	// the way to the normal form: what grows, and is gone at its end
	app := func(f, a api.Term) api.Term { return api.Term{Op: api.App, Kids: []api.Term{f, a}} }
	fun := func(name string, body func(x api.Term) api.Term) api.Term {
		x := api.Term{Op: api.Free, Name: name, Type: types.Prop()}
		return api.Term{Op: api.Abs, Name: name, Type: types.Prop(), Kids: []api.Term{term.Bind(x, body(x))}}
	}
	forget := func(t api.Term) api.Term { return app(fun("k", func(api.Term) api.Term { return of(kinds, "A") }), t) }
	of2 := func(t api.Term) kernel.Theorem {
		return derive.Must(kernel.Oracle(little(), "orc", term.Imp(of(kinds, "C"), t)))
	}
	for n, want := range map[int]int{112: 1, 113: 0} { // 77 n + 3 (n - 1) + 7 nodes
		t1 := fun("d", func(d api.Term) api.Term { return forget(balanced(n, func(int) api.Term { return d })) })
		if got := count(by("C"), of2(app(t1, balanced(20, leaf))), Rule); got != want {
			t.Error("nodes on the way", n, got)
		}
	}
	high := func(n int, t api.Term) api.Term {
		for range n {
			t = term.Apps(of(kinds, "And"), []api.Term{of(kinds, "A"), t})
		}
		return t
	}
	for n, want := range map[int]int{74: 1, 75: 0} { // 4 n + 3 nodes within each other
		t1 := fun("d", func(d api.Term) api.Term { return forget(high(n, d)) })
		for range 3 {
			inner := t1
			t1 = fun("d", func(d api.Term) api.Term { return app(inner, high(n, d)) })
		}
		if got := count(by("C"), of2(app(t1, of(kinds, "A"))), Rule); got != want {
			t.Error("depth on the way", n, got)
		}
	}
	same := fun("k", func(k api.Term) api.Term { return k })
	for n, want := range map[int]int{0: 1, 1: 0} { // 37 times 27 steps and one, and n
		chain := of(kinds, "A")
		for range 27 {
			chain = app(same, chain)
		}
		last := of(kinds, "B")
		for range n {
			last = app(same, last)
		}
		t1 := fun("d", func(d api.Term) api.Term { return balanced(37, func(int) api.Term { return d }) })
		if got := count(by("C"), of2(term.Apps(of(kinds, "And"), []api.Term{app(t1, chain), last})), Rule); got != want {
			t.Error("steps", n, got)
		}
	}
}

func TestP121Of(t *testing.T) {
	for _, x := range []struct{ rule, with, want string }{
		{"p ?x ==> q ?x ==> A", "p a", "q a ==> A"}, {"p ?x ==> q ?x", "r ?x ?y ==> p ?x", "r ?H.2 ?y.1 ==> q ?H.2"}, {"p ?x ==> A", "q a", "error 16"}, {"A", "A", "error 140"}, {"?P ==> ?Q ==> And ?P ?Q", "B |- A", "B |- ?Q.0 ==> And A ?Q.0"}, {"(!!v:N. q ?x) ==> A", "q ?x |- B", "error 16"},
		{"?F ?x ==> Ex ?F", "r a a", "Ex (%x:nat. r a a)"}, {"?P ==> ?Q ==> And ?P ?Q", "All ?F ==> ?F ?x", "error 16"}, // a flexible pair is left
		{"And ?P ?Q ==> ?P", "All ?F ==> ?F ?x", "error 16"},
	} {
		r, e := Of(by(x.rule), by(x.with), 8)
		got := theoremText(r)
		if e != api.OK {
			got = fmt.Sprint("error ", e)
		} else if !taken(r) {
			t.Error("not taken")
		}
		if got != x.want {
			t.Error(x.rule, x.with, got)
		}
	}
	for i, x := range []struct {
		rule, with kernel.Theorem
		depth      int
		e          api.Errno
	}{{kernel.Theorem{}, by("A"), 0, kernel.ErrNone}, {by("A"), kernel.Theorem{}, 0, kernel.ErrNone}, {by("A ==> B"), by("A"), -1, api.ErrRange}, {by("A ==> B"), by("A"), 61, api.ErrRange}, {by("A"), by("A"), 61, ErrSubgoal}} {
		if r, e := Of(x.rule, x.with, x.depth); e != x.e || r.Is() {
			t.Error(i, e)
		}
	}
}

func TestP123Split(t *testing.T) {
	parts := func(s Subgoal) string {
		out := ""
		for _, p := range s.Params {
			out += fmt.Sprintf("%d %s:%s, ", p.Op, p.Name, typeText(p.Type))
		}
		for _, h := range s.Hyps {
			out += brief(h) + "; "
		}
		return out + "|- " + brief(s.Concl)
	}
	for _, x := range []struct{ s, want, whole string }{
		{"A", "|- A", "A"}, {"A ==> B ==> C", "A; B; |- C", "A ==> B ==> C"}, {"!!x:N. p x", "2 x:nat, |- p #0", "!!x:nat. p #0"}, {"p $n ==> !!x:N. q x ==> !!y:N. r x y ==> p y", "2 x:nat, 2 y:nat, p $n; q #1; r #1 #0; |- p #0", "!!x:nat. !!y:nat. p $n ==> q #1 ==> r #1 #0 ==> p #0"},
		{"(A ==> B) ==> C", "A ==> B; |- C", "(A ==> B) ==> C"}, {"!!x:N. !!x:N. r x x", "2 x:nat, 2 x:nat, |- r #0 #0", "!!x:nat. !!x:nat. r #0 #0"}, {"All (%x:N. p x)", "|- All (%x:nat. p #0)", "All (%x:nat. p #0)"},
	} {
		s := Split(of(kinds, x.s))
		if parts(s) != x.want || brief(Whole(s)) != x.whole {
			t.Error(x.s, parts(s), brief(Whole(s)))
		}
	}
	// any terms: loose bound variables, and what only looks like a !!
	loose := term.Imp(api.Term{Op: api.Bound, Num: 3}, term.All(of(kinds, "$n"), term.Imp(api.Term{Op: api.Bound, Num: 1}, of(kinds, "p $n"))))
	if s := Split(loose); parts(s) != "2 n:nat, #4; #2; |- p #0" || !term.Equal(Split(Whole(s)).Hyps[0], s.Hyps[0]) {
		t.Error(parts(s))
	}
	all := api.Term{Op: api.Const, Name: "all"}
	for i, x := range []api.Term{{}, {Op: api.App, Kids: []api.Term{all, all}}, {Op: api.App, Kids: []api.Term{all, {Op: api.Abs}}}, {Op: api.App, Kids: []api.Term{all}}, {Op: 9, Kids: []api.Term{all, {Op: api.Abs, Kids: []api.Term{{}}}}}} {
		if s := Split(x); len(s.Params)+len(s.Hyps) != 0 || !term.Equal(s.Concl, x) {
			t.Error(i)
		}
	}
	// a !! of another type is one, too; what is put together has the right one
	odd := api.Term{Op: api.App, Kids: []api.Term{all, {Op: api.Abs, Name: "v", Type: typ("N"), Kids: []api.Term{of(kinds, "A")}}}}
	if s := Split(odd); len(s.Params) != 1 || term.Equal(Whole(s), odd) || brief(Whole(s)) != "!!v:nat. A" {
		t.Error(parts(s))
	}
	// the kind of Params plays no part
	if w := Whole(Subgoal{Params: []api.Term{{Op: 77, Name: "k", Num: 5, Type: typ("N"), Kids: []api.Term{{}}}}, Concl: of(kinds, "A")}); brief(w) != "!!k:nat. A" || len(w.Kids[1].Kids) != 1 {
		t.Error(brief(w))
	}
	if w := Whole(Subgoal{}); !term.Equal(w, api.Term{}) {
		t.Error(w)
	}
}

// Results share no memory with arguments, nor with each other.
func TestP121NewMemory(t *testing.T) {
	x := of(kinds, "!!x:N. p x ==> q x")
	before := text(x)
	s := Split(x)
	w := Whole(s)
	s.Params[0].Type.Name, s.Hyps[0].Kids[0].Name, s.Concl.Kids[0].Name = "spoilt", "spoilt", "spoilt"
	if text(x) != before || text(w) != before {
		t.Error("shared")
	}
	l, _, _ := First(by("p ?x ==> q ?x"), 0, by("q a ==> q a"), Rule, 1, 1)
	p := l[0].Prop()
	p.Kids[1].Kids[0].Name = "spoilt"
	if theoremText(l[0]) != "p a ==> q a" {
		t.Error("shared")
	}
}

func TestReplace(t *testing.T) {
	state, rule := by("C |- A ==> B ==> A"), by("A; B |- C ==> A ==> B")
	r, e := Replace(state, 1, rule, 2)
	if e != api.OK || !sameHyps(theoremText(r), "A; B; C |- A ==> C ==> A ==> A") || !taken(r) {
		t.Error(e, theoremText(r))
	}
	if r, e := Replace(by("(C ==> A ==> B) ==> A"), 0, rule, 0); e != api.OK || !sameHyps(theoremText(r), "A; B |- A") {
		t.Error(e, theoremText(r))
	}
	for i, x := range []struct {
		state kernel.Theorem
		at    int
		by    kernel.Theorem
		n     int
		e     api.Errno
	}{{kernel.Theorem{}, 0, rule, 0, kernel.ErrNone}, {state, 0, kernel.Theorem{}, 0, kernel.ErrNone}, {state, 2, rule, 0, ErrSubgoal}, {state, -1, rule, 0, ErrSubgoal}, {state, 0, rule, 3, api.ErrRange}, {state, 0, rule, -1, api.ErrRange}, {state, 0, rule, 2, api.ErrFail}} {
		if r, e := Replace(x.state, x.at, x.by, x.n); e != x.e || r.Is() {
			t.Error(i, e)
		}
	}
}

// A new variable of a unifier may have the name of another one of the state: then there is a resolvent only if it has its type.
func TestP121Names(t *testing.T) {
	counts := []int{}
	for _, k := range []string{"?H.1: (N>P)>N; ?n: N", "?H.1: N>N; ?n: N", "?H.9: N; ?n: N"} {
		h := strings.Split(k, ":")[0]
		rest := map[string]string{"?H.1: (N>P)>N": "q (?H.1 p)", "?H.1: N>N": "q (?H.1 z)", "?H.9: N": "q ?H.9"}[strings.Split(k, ";")[0]]
		state := stated("?F: (N>P)>P; ?g: N>P; "+k, "?F ?g ==> "+rest)
		rule := by("p a")
		got, _, e := First(rule, 0, state, Rule, 4, 20)
		want := naiveResolvents(little(), what(rule), what(state), 0, Rule, 4, 20)
		if e != api.OK || len(got) != len(want) {
			t.Error(h, e, len(got), len(want))
		}
		for i := range got {
			if !equalSays(what(got[i]), want[i]) || !taken(got[i]) {
				t.Error(h, theoremText(got[i]))
			}
		}
		counts = append(counts, len(got))
	}
	if counts[1] >= counts[0] || counts[0] != counts[2] || counts[1] == 0 {
		t.Error(counts)
	}
}
