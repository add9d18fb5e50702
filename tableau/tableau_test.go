package tableau

import (
	"fmt"
	"math/rand"
	"slices"
	"strings"
	"sync"
	"testing"

	"triforium/api"
	"triforium/hol"
	"triforium/model"
	"triforium/term"
	"triforium/testlang"
	"triforium/theory"
	"triforium/types"
)

var small = sync.OnceValue(func() api.Theory {
	return testlang.Theory(hol.HOL(), "t", "p : t => bool; q : t => bool; r : t => t => bool; c : t; d : t; f : t => t; P : (t => bool) => bool; s : ?'a => bool", "")
})

func read(s string) api.Term { return testlang.Term(small(), s) }

// list reads terms, with `;` between; those that may be formulas are.
func list(s string) []api.Term {
	var out []api.Term
	for _, x := range strings.Split(s, ";") {
		if x = strings.TrimSpace(x); x != "" {
			out = append(out, form(x))
		}
	}
	return out
}

// form reads a formula, or another term.
func form(s string) (t api.Term) {
	defer func() {
		if recover() != nil {
			t = read(s)
		}
	}()
	return testlang.Term(small(), "("+s+") :: bool")
}

func leaf(at, other int) Tree    { return Tree{Kind: Close, At: at, Other: other} }
func one(k, at int, t Tree) Tree { return Tree{Kind: k, At: at, Kids: []Tree{t}} }

func by(k, at int, s string, t Tree) Tree {
	return Tree{Kind: k, At: at, Term: read(s), Kids: []Tree{t}}
}

func two(at int, a, b Tree) Tree { return Tree{Kind: Beta, At: at, Kids: []Tree{a, b}} }

func TestP231Kind(t *testing.T) {
	for _, c := range []struct {
		s    string
		kind int
		want string
	}{
		{"~ ~ a", Twice, "a::bool"}, {"a & b", Alpha, "a::bool; b::bool"}, {"~ (a | b)", Alpha, "~ a; ~ b"}, {"~ (a --> b)", Alpha, "a::bool; ~ b"}, {"a | b", Beta, "a::bool; b::bool"}, {"a --> b", Beta, "~ a; b::bool"}, {"~ (a & b)", Beta, "~ a; ~ b"},
		{"(a::bool) = b", Beta, "a & b; ~ a & ~ b"}, {"~ ((a::bool) = b)", Beta, "a & ~ b; ~ a & b"}, {"ALL x. p x", Gamma, "%x. p x"}, {"All p", Gamma, "%x. p x"}, {"~ (EX x. p x)", Gamma, "%x. ~ p x"}, {"~ Ex p", Gamma, "%x. ~ p x"}, {"EX x. r x c", Delta, "%x. r x c"}, {"Ex (r c)", Delta, "%x. r c x"}, {"~ (ALL x. p x)", Delta, "%x. ~ p x"}, {"~ All p", Delta, "%x. ~ p x"},
		{"p c", 0, ""}, {"~ p c", 0, ""}, {"c = d", 0, ""}, {"~ (c = d)", 0, ""}, {"True", 0, ""}, {"False", 0, ""}, {"~ True", 0, ""}, {"And a", 0, ""}, {"if a then b else True", 0, ""}, {"P (%x. p x)", 0, ""}, {"Not", 0, ""}, {"c", 0, ""},
	} {
		kind, parts := Kind(read(c.s))
		if kind != c.kind || !slices.EqualFunc(parts, list(c.want), term.Equal) {
			t.Error(c.s, kind, len(parts))
		}
	}
	all := read("ALL x. p x").Kids[0]
	app := func(f, a api.Term) api.Term { return api.Term{Op: api.App, Kids: []api.Term{f, a}} }
	for i, x := range []api.Term{{}, app(all, api.Term{Op: api.Bound}), app(all, read("c")), app(all, read("f")), {Op: api.App}, app(app(app(read("And"), read("a::bool")), read("a::bool")), read("c"))} {
		if kind, parts := Kind(x); kind != 0 || parts != nil {
			t.Error(i, kind)
		}
	}
	// by names and numbers of arguments alone
	odd := app(app(api.Term{Op: api.Const, Name: "And"}, api.Term{Op: 77}), read("c"))
	if kind, parts := Kind(odd); kind != Alpha || len(parts) != 2 || parts[0].Op != 77 {
		t.Error(kind)
	}
	open := app(all, api.Term{Op: api.Abs, Name: "y", Kids: []api.Term{{Op: api.Bound, Num: 7}}})
	if kind, parts := Kind(open); kind != Gamma || parts[0].Name != "y" {
		t.Error(kind)
	}
	if _, parts := Kind(read("~ (EX x. p x)")); parts[0].Name != "x" {
		t.Error("the name")
	}
}

func TestP231Check(t *testing.T) {
	thy := small()
	big := leaf(0, 0)
	for range MaxNodes - 1 {
		big = one(Twice, 0, big)
	}
	for i, c := range []struct {
		l    string
		t    Tree
		want api.Errno
	}{
		{"a & ~ a", one(Alpha, 0, leaf(1, 2)), api.OK}, {"a & ~ a", one(Alpha, 0, leaf(2, 1)), api.OK}, {"(ALL x. p x); ~ p c", by(Gamma, 0, "c", leaf(2, 1)), api.OK}, {"(ALL x. p x); ~ p c", by(Gamma, 0, "d", leaf(2, 1)), ErrTree}, {"(ALL x. p x); ~ p c", by(Gamma, 0, "p", leaf(2, 1)), ErrTree},
		{"(EX x. p x); (ALL x. ~ p x)", by(Delta, 0, "y::t", by(Gamma, 1, "y::t", leaf(2, 3))), api.OK}, {"(EX x. p x); p y; (ALL x. ~ p x)", by(Delta, 0, "y::t", by(Gamma, 2, "y::t", leaf(3, 4))), ErrTree}, {"(EX x. p x); (ALL x. ~ p x)", by(Delta, 0, "c", by(Gamma, 1, "c", leaf(2, 3))), ErrTree},
		{"(EX x. p x); (ALL x. ~ p x)", by(Delta, 0, "y::bool", by(Gamma, 1, "y::t", leaf(2, 3))), ErrTree}, {"(EX x. p x); (ALL x. ~ p x); a", by(Delta, 0, "a::t", leaf(0, 0)), ErrTree}, {"(ALL (x::t). a) & ~ a", one(Alpha, 0, by(Gamma, 1, "a::t", leaf(3, 2))), ErrTree}, {"(ALL (x::t). a) & ~ a", one(Alpha, 0, by(Gamma, 1, "b::t", leaf(3, 2))), api.OK},
		{"a; ~ a", leaf(0, 1), api.OK}, {"a; ~ a", leaf(1, 0), api.OK}, {"a; ~ a", leaf(0, 0), ErrTree}, {"a; ~ a", leaf(0, 2), ErrTree}, {"a; ~ a", leaf(-1, 0), ErrTree}, {"a; ~ b", leaf(0, 1), ErrTree}, {"False", leaf(0, 0), api.OK}, {"~ True", leaf(0, 0), api.OK}, {"~ (c = c)", leaf(0, 0), api.OK}, {"~ (c = d)", leaf(0, 0), ErrTree}, {"False; True", leaf(0, 1), ErrTree}, {"False; ~ False", leaf(0, 1), api.OK}, {"True", leaf(0, 0), ErrTree},
		{"a; ~ a", Tree{Kind: Close, Other: 1, Kids: []Tree{leaf(0, 1)}}, ErrTree}, {"a; ~ a", Tree{Kind: Close, Other: 1, Term: read("c")}, ErrTree}, {"a; ~ a", Tree{}, ErrTree}, {"a; ~ a", Tree{Kind: 7, Other: 1}, ErrTree}, {"", leaf(0, 0), ErrTree},
		{"~ ~ a; ~ a", one(Twice, 0, leaf(2, 1)), api.OK}, {"~ ~ a; ~ a", one(Alpha, 0, leaf(2, 1)), ErrTree}, {"~ ~ a; ~ a", Tree{Kind: Twice, Other: 1, Kids: []Tree{leaf(2, 1)}}, ErrTree}, {"~ ~ a; ~ a", Tree{Kind: Twice}, ErrTree}, {"~ ~ a; ~ a", Tree{Kind: Twice, Kids: []Tree{leaf(2, 1), leaf(2, 1)}}, ErrTree}, {"~ ~ a; ~ a", by(Twice, 0, "c", leaf(2, 1)), ErrTree},
		{"a | b; ~ a; ~ b", two(0, leaf(3, 1), leaf(3, 2)), api.OK}, {"a | b; ~ a; ~ b", two(0, leaf(3, 2), leaf(3, 1)), ErrTree}, {"a | b; ~ a; ~ b", one(Beta, 0, leaf(3, 1)), ErrTree}, {"(a::bool) = b; ~ b; a", two(0, one(Alpha, 3, leaf(5, 1)), one(Alpha, 3, leaf(4, 2))), api.OK}, {"~ ((a::bool) = b); ~ a; ~ b", two(0, one(Alpha, 3, leaf(4, 1)), one(Alpha, 3, leaf(5, 2))), api.OK},
		{"~ ~ a", big, ErrTree}, {"~ ~ a", one(Twice, 0, big), api.ErrCount}, {"(ALL x. ~ (f x = f x))", by(Gamma, 0, "f (f c)", leaf(1, 1)), api.OK}, {"All p; ~ p c", by(Gamma, 0, "c", leaf(2, 1)), api.OK}, {"~ Ex p; p c", by(Gamma, 0, "(%x. x) c", leaf(2, 1)), api.OK},
		{"(ALL (x::?'a). s x); ~ s (y::?'a)", by(Gamma, 0, "y::?'a", leaf(2, 1)), api.OK}, {"(ALL (x::'a). s x); ~ s (y::'a)", by(Gamma, 0, "y::'a::{}", leaf(2, 1)), api.OK},
	} {
		if e := Check(thy, list(c.l), c.t); e != c.want {
			t.Error(i, c.l, e, "not", c.want)
		}
	}
}

// A branch has at most 60 formulas.
func TestP231Branch(t *testing.T) {
	grow := func(n int) Tree {
		out := leaf(0, 1)
		for range n {
			out = one(Alpha, 2, out)
		}
		return out
	}
	l := list("a; ~ a; b & b; b")
	if e := Check(small(), l, grow(28)); e != api.OK {
		t.Error(e)
	}
	if e := Check(small(), l, grow(29)); e != ErrTree {
		t.Error(e)
	}
	// a formula of a branch has at most 400 nodes, and 60 within each other
	deep := func(n int) string { return strings.Repeat("f (", n) + "c" + strings.Repeat(")", n) }
	if e := Check(small(), list("(ALL x. p x); a; ~ a"), by(Gamma, 0, deep(57), leaf(1, 2))); e != api.OK {
		t.Error(e)
	}
	if e := Check(small(), list("(ALL x. p x); a; ~ a"), by(Gamma, 0, deep(59), leaf(1, 2))); e != ErrTree {
		t.Error("too deep", e)
	}
	many := "(ALL x. r x x & r x x & r x x & r x x & r x x)"
	if e := Check(small(), list(many+"; a; ~ a"), by(Gamma, 0, deep(18), leaf(1, 2))); e != api.OK {
		t.Error(e)
	}
	if e := Check(small(), list(many+"; a; ~ a"), by(Gamma, 0, deep(19), leaf(1, 2))); e != ErrTree {
		t.Error("too large", e)
	}
}

func TestP231Errors(t *testing.T) {
	thy := small()
	fine := leaf(0, 0)
	x := func(s string) []api.Term { return list(s) }
	deep := read("a::bool")
	for range 31 {
		deep = hol.Not(deep)
	}
	wide := read("a::bool")
	for range 7 {
		wide = hol.And(wide, wide)
	}
	sorted := func(sort ...string) api.Term {
		v := api.Term{Op: api.Free, Name: "y", Type: api.Type{Op: api.TFree, Name: "a", Sort: sort}}
		return term.Apps(api.Term{Op: api.Const, Name: "s", Type: types.Fun(v.Type, hol.BoolType())}, []api.Term{v})
	}
	classes := small()
	classes.Classes = []api.Class{{Name: "k"}}
	for i, c := range []struct {
		thy  api.Theory
		l    []api.Term
		want api.Errno
	}{
		{api.Theory{}, slices.Repeat([]api.Term{{}}, 21), api.ErrForm}, {theory.Pure(), slices.Repeat([]api.Term{{}}, 21), api.ErrTheory}, {thy, slices.Repeat([]api.Term{{}}, 21), api.ErrCount}, {thy, append(x("a"), api.Term{}, read("c")), api.ErrForm}, {thy, append(x("a"), read("c"), api.Term{}), api.ErrType}, {thy, []api.Term{deep, read("c")}, api.ErrLarge}, {thy, []api.Term{wide, read("c")}, api.ErrLarge}, {thy, x("p x; ~ x"), api.ErrType}, {thy, x("p ?x; ~ ?x"), api.ErrType}, {classes, []api.Term{sorted(), sorted("k")}, api.ErrSort},
	} {
		if e := Check(c.thy, c.l, fine); e != c.want {
			t.Error("Check", i, e, "not", c.want)
		}
		if _, e := Search(c.thy, c.l, -1, -1); e != c.want {
			t.Error("Search", i, e, "not", c.want)
		}
		if th, e := Replay(c.thy, c.l, fine); e != c.want || th.Is() {
			t.Error("Replay", i, e, "not", c.want)
		}
	}
	for _, n := range [][2]int{{-1, 5}, {9, 5}, {0, -1}, {0, 2001}} {
		if _, e := Search(thy, x("a; ~ a"), n[0], n[1]); e != api.ErrRange {
			t.Error(n, e)
		}
		if _, e := Prove(thy, read("a | ~ a"), n[0], n[1]); e != api.ErrRange {
			t.Error(n, e)
		}
	}
	if _, e := Search(thy, x("a; ~ a"), 0, 0); e != api.ErrFail {
		t.Error(e)
	}
	if _, e := Search(thy, x("a; ~ b"), 8, 2000); e != api.ErrFail {
		t.Error(e)
	}
	if _, e := Prove(thy, read("c"), 0, 10); e != api.ErrType {
		t.Error(e)
	}
	if _, e := Replay(thy, x("a"), fine); e != ErrTree {
		t.Error(e)
	}
	if Size(Tree{}) != 1 || Size(two(0, fine, one(9, 9, fine))) != 4 {
		t.Error("Size")
	}
}

// shown writes a tableau.
func shown(t Tree) string {
	s := fmt.Sprint(t.Kind, "@", t.At)
	for _, k := range t.Kids {
		s += " (" + shown(k) + ")"
	}
	return s
}

// gammasOf returns the greatest number of nodes of the kind Gamma on a branch.
func gammasOf(t Tree) int {
	n := 0
	for _, k := range t.Kids {
		n = max(n, gammasOf(k))
	}
	if t.Kind == Gamma {
		n++
	}
	return n
}

func TestP232Search(t *testing.T) {
	for _, c := range []struct {
		l      string
		gammas int
	}{
		{"a & ~ a", 0}, {"(ALL x. p x); ~ p c", 1}, {"(EX x. p x); (ALL x. ~ p x)", 1}, {"a | b; ~ a | b; a | ~ b; ~ a | ~ b", 0}, {"(ALL x. p x --> p (f x)); p c; ~ p (f (f c))", 2}, {"~ ((EX x. ALL y. r x y) --> (ALL y. EX x. r x y))", 2}, {"~ (EX x. p x --> (ALL y. p y))", 2}, {"((a::bool) = b) = (~ (b = a))", 0},
		{"(ALL x. p x --> q x); (ALL x. q x --> ~ p x); p c", 2}, {"(ALL x. p x); (ALL x. ~ p x)", 2}, {"(ALL x y. r x y --> r y x); r c d; ~ r d c", 2}, {"~ (c = c)", 0}, {"(ALL x. p x --> p (f x)); p c; ~ p (f (f (f (f c))))", 4},
		{"a; b; False; c = d", 0}, {"((a::bool) = b); ((b::bool) = e); ((e::bool) = g); ((g::bool) = h); a; ~ h", 0}, {"(EX (x::t). a); ~ a", 0}, {"(ALL (x::t). a); ~ a", 1}, {"P (%x. p x); ~ P p | ~ P (%x. p x)", 0}, {"P (%x. p x); ~ P (%x. p x)", 0},
	} {
		l := list(c.l)
		tree, e := Search(small(), l, c.gammas, MaxNodes)
		if strings.HasPrefix(c.l, "P (%x. p x); ~ P p") {
			if e != api.ErrFail {
				t.Error("not up to eta", e)
			}
			continue
		}
		if e != api.OK || Check(small(), l, tree) != api.OK || gammasOf(tree) > c.gammas {
			t.Error(c.l, e, shown(tree))
			continue
		}
		th, e := Replay(small(), l, tree)
		if e != api.OK || !term.Equal(th.Prop(), read("|- False")) || testlang.Fault(th) != "" || len(th.Oracles()) > 0 {
			t.Error(c.l, e, testlang.Sequent(th))
		}
		for _, h := range th.Hyps() {
			if !slices.ContainsFunc(l, func(f api.Term) bool { return term.Equal(hol.Truth(f), h) }) {
				t.Error(c.l, testlang.Sequent(th))
			}
		}
		if _, e := Search(small(), l, c.gammas, Size(tree)); e != api.OK {
			t.Error(c.l, e)
		}
		if _, e := Search(small(), l, c.gammas, Size(tree)-1); e != api.ErrFail {
			t.Error(c.l, e)
		}
		if c.gammas > 0 && c.gammas < 4 {
			if _, e := Search(small(), l, c.gammas-1, MaxNodes); e != api.ErrFail {
				t.Error(c.l, "with fewer instances", e)
			}
		}
	}
}

func TestP233Prove(t *testing.T) {
	for _, s := range []string{"a | ~ a", "(EX x. ALL y. r x y) --> (ALL y. EX x. r x y)", "(ALL x. p x) --> p (f c)", "(EX x. p x --> (ALL y. p y))", "((a::bool) = b) --> (b = a)", "c = c", "True", "~ False", "(ALL x. p x & q x) = ((ALL x. p x) & (ALL x. q x))", "~ (EX x. ALL y. r x y = (~ r y y))", "(%x. p x --> p x) c = (%x. p x --> p x) c"} {
		f := form(s)
		th, e := Prove(small(), f, 4, MaxNodes)
		if e != api.OK || !term.Equal(th.Prop(), hol.Truth(f)) || len(th.Hyps()) > 0 || testlang.Fault(th) != "" {
			t.Error(s, e, testlang.Sequent(th))
		}
	}
	for _, s := range []string{"a", "a --> b", "(EX x. p x)", "p c --> (ALL x. p x)", "c = d", "(ALL x. EX y. r x y) --> (EX y. ALL x. r x y)"} {
		if th, e := Prove(small(), form(s), 3, MaxNodes); e != api.ErrFail || th.Is() {
			t.Error(s, e)
		}
	}
}

// A Var of a formula is as good as a Free.
func TestP233Variables(t *testing.T) {
	for _, s := range []string{"p ?x; ~ p ?x", "(ALL x. p x); ~ p ?x", "?A --> ?B; ?A; ~ ?B", "(ALL (x::?'a). s x); ~ s (?y::?'a)", "(EX (x::'a). s x); (ALL (x::'a). ~ s x)"} {
		l := list(s)
		tree, e := Search(small(), l, 1, 50)
		if s[0] == '(' && e == api.ErrFail {
			t.Error(s, "not found")
			continue
		}
		th, e := Replay(small(), l, tree)
		if e != api.OK || testlang.Fault(th) != "" {
			t.Error(s, e)
		}
	}
}

// chance makes a formula.
func chance(m *rand.Rand, depth int, bound []string) string {
	atom := func() string {
		v := append([]string{"c", "d"}, bound...)
		x := func() string { return v[m.Intn(len(v))] }
		return []string{"p " + x(), "q " + x(), "r " + x() + " " + x(), "a"}[m.Intn(4)]
	}
	if depth == 0 {
		return atom()
	}
	sub := func() string { return "(" + chance(m, depth-1, bound) + ")" }
	switch m.Intn(9) {
	case 0:
		return sub() + "&" + sub()
	case 1:
		return sub() + "|" + sub()
	case 2:
		return sub() + "-->" + sub()
	case 3:
		return "~ " + sub()
	case 4:
		if depth < 2 {
			return "(" + sub() + "::bool) =" + sub()
		}
	case 5, 6, 7:
		x := "x" + string(rune('0'+depth))
		return []string{"ALL", "EX"}[m.Intn(2)] + " (" + x + "::t). " + chance(m, depth-1, append(slices.Clone(bound), x))
	}
	return atom()
}

func formulasOf(m *rand.Rand) []api.Term {
	var l []string
	for range 2 + m.Intn(3) {
		l = append(l, "("+chance(m, 2, nil)+") :: bool")
	}
	return list(strings.Join(l, ";"))
}

// least returns the number of nodes of the least tableau with so many nodes and instances on a branch, whose terms are constants and Frees; 0, if there is none. It tries all.
func least(branch []api.Term, nodes, gammas int, names int) int {
	if nodes <= 0 {
		return 0
	}
	for i, a := range branch {
		for j, b := range branch {
			if contradict(a, b, i == j) {
				return 1
			}
		}
	}
	best := 0
	for _, f := range branch {
		limit := nodes - 1
		if best > 0 {
			limit = best - 2
		}
		kind, parts := Kind(f)
		next := func(more ...api.Term) []api.Term { return append(branch[:len(branch):len(branch)], more...) }
		n := 0
		switch kind {
		case Alpha, Twice:
			n = least(next(parts...), limit, gammas, names)
		case Beta:
			if n = least(next(parts[0]), limit-1, gammas, names); n > 0 {
				k := least(next(parts[1]), limit-n, gammas, names)
				n += k
				if k == 0 {
					n = 0
				}
			}
		case Delta:
			x := api.Term{Op: api.Free, Name: fmt.Sprint("new", names), Type: parts[0].Type}
			n = least(next(term.Put(parts[0].Kids[0], x)), limit, gammas, names+1)
		case Gamma:
			for _, s := range []string{"c", "d", "new0", "new1", "new2"} {
				x := api.Term{Op: api.Free, Name: s, Type: parts[0].Type}
				if s == "c" || s == "d" {
					x = read(s)
				}
				if gammas > 0 && occurs(branch, x) {
					if k := least(next(term.Put(parts[0].Kids[0], x)), limit, gammas-1, names); k > 0 && (n == 0 || k < n) {
						n = k
						limit = k - 1
					}
				}
			}
		}
		if n > 0 && (best == 0 || n+1 < best) {
			best = n + 1
		}
	}
	return best
}

func occurs(l []api.Term, x api.Term) bool {
	for n := range term.Nodes(api.Term{Kids: l}) {
		if term.Equal(n, x) {
			return true
		}
	}
	return false
}

func TestP234Found(t *testing.T) {
	m := rand.New(rand.NewSource(234))
	found, none := 0, 0
	for range 120 {
		l := formulasOf(m)
		n := least(l, 4+m.Intn(2), 2, 0)
		tree, e := Search(small(), l, 2, MaxNodes)
		if n > 0 && e != api.OK {
			t.Error(texts(l), n, e)
		}
		if e == api.OK {
			found++
			if Check(small(), l, tree) != api.OK {
				t.Error(texts(l), shown(tree))
			}
			if th, e := Replay(small(), l, tree); e != api.OK || m.Intn(4) == 0 && testlang.Fault(th) != "" {
				t.Error(texts(l), e)
			}
		} else {
			none++
		}
	}
	if found < 10 || none < 10 {
		t.Error(found, none)
	}
}

func texts(l []api.Term) string {
	var out []string
	for _, x := range l {
		out = append(out, testlang.Text(small(), x))
	}
	return strings.Join(out, "; ")
}

// What is refuted is not true in any model with one or two elements.
func TestP235Sound(t *testing.T) {
	m := rand.New(rand.NewSource(235))
	thy := testlang.Theory(hol.HOL(), "t", "", "")
	for range 60 {
		l := formulasOf(m)
		if _, e := Search(small(), l, 2, MaxNodes); e != api.OK {
			continue
		}
		for n := 1; n <= 2; n++ {
			ok, _, e := model.Holds(thy, model.Model{Carriers: []model.Carrier{{Name: "t", Cases: make([][]api.Type, n)}}}, nil, hol.Truth(negated(l)))
			if e == api.OK && !ok {
				t.Error(texts(l))
			}
		}
	}
}

// negated is the negation of the conjunction of formulas.
func negated(l []api.Term) api.Term {
	out := hol.True()
	for _, f := range l {
		out = hol.And(open(f), out)
	}
	return hol.Not(out)
}

// open has Frees in the place of the constants of small.
func open(t api.Term) api.Term {
	if t.Op == api.Const && len(t.Name) == 1 {
		t.Op = api.Free
	}
	t.Kids = slices.Clone(t.Kids)
	for i, k := range t.Kids {
		t.Kids[i] = open(k)
	}
	return t
}

// moved is a tableau for more formulas behind those that are given: indices of what was put on branches are greater.
func moved(t Tree, given, more int) Tree {
	up := func(n int) int {
		if n >= given {
			return n + more
		}
		return n
	}
	t.At = up(t.At)
	if t.Kind == Close {
		t.Other = up(t.Other)
	}
	t.Kids = slices.Clone(t.Kids)
	for i := range t.Kids {
		t.Kids[i] = moved(t.Kids[i], given, more)
	}
	return t
}

func TestP236Weakening(t *testing.T) {
	m := rand.New(rand.NewSource(236))
	for range 150 {
		l := formulasOf(m)
		tree, e := Search(small(), l, 2, MaxNodes)
		if e != api.OK {
			continue
		}
		more := formulasOf(m)
		if e := Check(small(), append(slices.Clone(l), more...), moved(tree, len(l), len(more))); e != api.OK {
			t.Error(texts(l), e)
		}
	}
}

// Whatever a tree is, it has an error, or is replayed.
func TestP1Garbage(t *testing.T) {
	m := rand.New(rand.NewSource(1))
	var any func(depth int) Tree
	any = func(depth int) Tree {
		t := Tree{Kind: m.Intn(9) - 1, At: m.Intn(6) - 1, Other: []int{0, 0, 1, 2, -1}[m.Intn(5)]}
		if m.Intn(4) == 0 {
			t.Term = []api.Term{read("c"), {}, {Op: api.Bound}, {Op: 77}, read("y::t"), read("p")}[m.Intn(6)]
		}
		for range []int{0, 1, 1, 2}[m.Intn(4)] {
			if depth > 0 {
				t.Kids = append(t.Kids, any(depth-1))
			}
		}
		return t
	}
	l := list("a; ~ a; (ALL x. p x); (EX x. ~ p x); a | ~ a; ~ ~ False")
	good := 0
	for range 600 {
		x := any(3)
		e := Check(small(), l, x)
		th, f := Replay(small(), l, x)
		if e != f || th.Is() != (e == api.OK) {
			t.Fatal(e, f)
		}
		if e == api.OK {
			good++
			if testlang.Fault(th) != "" {
				t.Error(shown(x))
			}
		}
	}
	if good == 0 {
		t.Error("no tableau")
	}
}
