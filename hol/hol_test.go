package hol

import (
	"math/rand"
	"slices"
	"strings"
	"testing"

	"triforium/api"
	"triforium/checker"
	"triforium/mixfix"
	"triforium/model"
	"triforium/term"
	"triforium/theory"
	"triforium/types"
)

func typ(s string) api.Type {
	t, e := mixfix.Type(s)
	if e != api.OK {
		panic(s)
	}
	return t
}

// read reads a term by the notation of layer 16, without the notations of HOL.
func read(thy api.Theory, s string) api.Term {
	t, e := mixfix.Read(thy, mixfix.Pure(), nil, s, api.Type{})
	if e != api.OK {
		panic(e.Error() + " in " + s)
	}
	return t
}

func TestP191Theories(t *testing.T) {
	h, n := HOL(), Nat()
	if e := theory.Check(h); e != api.OK || h.Name != "HOL" {
		t.Error(e, h.Name)
	}
	if e := theory.Check(n); e != api.OK || n.Name != "Nat" {
		t.Error(e, n.Name)
	}
	if !theory.Within(theory.Pure(), h) || !theory.Within(h, n) || theory.Within(n, h) {
		t.Error("Within")
	}
	want := "imp all eq protect Trueprop:bool => prop True:bool False:bool Not:bool => bool And:bool => bool => bool Or:bool => bool => bool Implies:bool => bool => bool Equal:?'a => ?'a => bool All:(?'a => bool) => bool Ex:(?'a => bool) => bool The:(?'a => bool) => ?'a If:bool => ?'a => ?'a => ?'a " +
		"Zero:nat Suc:nat => nat plus:nat => nat => nat times:nat => nat => nat le:nat => nat => bool less:nat => nat => bool"
	rest := want
	for i, c := range n.Consts {
		var ok bool
		if rest, ok = strings.CutPrefix(strings.TrimSpace(rest), c.Name); !ok {
			t.Fatal(i, c.Name)
		}
		if kind, ok := strings.CutPrefix(rest, ":"); ok {
			next := len(kind)
			if i+1 < len(n.Consts) {
				next = strings.Index(kind, " "+n.Consts[i+1].Name+":")
			}
			if !types.Equal(c.Type, typ(kind[:next])) {
				t.Error(c.Name)
			}
			rest = kind[next:]
		}
	}
	if strings.TrimSpace(rest) != "" || len(h.Consts) != 16 || len(h.Axioms) != 1+25 || len(n.Axioms) != 1+25+13 {
		t.Error(rest, len(h.Consts), len(h.Axioms), len(n.Axioms))
	}
	for _, a := range n.Axioms[1:] {
		if a.Kind != api.Plain {
			t.Error(a.Name)
		}
	}
	for _, k := range []api.Type{BoolType(), NatType()} {
		if types.Check(n, k) != api.OK {
			t.Error(k)
		}
	}
	if BoolType().Name != "bool" || NatType().Name != "nat" {
		t.Error("types")
	}
}

// Some propositions, read by another notation.
func TestP191Propositions(t *testing.T) {
	thy := Nat()
	all := map[string]api.Term{}
	for _, l := range [][]Named{Rules(), NatRules()} {
		for _, n := range l {
			all[n.Name] = n.Prop
		}
	}
	for _, a := range thy.Axioms {
		all[a.Name] = a.Prop
	}
	if len(all) != 1+25+13+46+21 {
		t.Error(len(all))
	}
	for name, s := range map[string]string{
		"trueI": "Trueprop True", "notI": "(Trueprop ?P ==> Trueprop False) ==> Trueprop (Not ?P)", "mp": "Trueprop (Implies ?P ?Q) ==> Trueprop ?P ==> Trueprop ?Q",
		"allI": "(!!x. Trueprop (?P (x::?'a))) ==> Trueprop (All ?P)", "exE": "Trueprop (Ex ?P) ==> (!!x::?'a. Trueprop (?P x) ==> Trueprop ?Q) ==> Trueprop ?Q",
		"subst": "Trueprop (Equal ?x ?y) ==> Trueprop (?P (?x::?'a)) ==> Trueprop (?P ?y)", "ext": "(!!x::?'a. Trueprop (Equal (?f x) (?g x :: ?'b))) ==> Trueprop (Equal ?f ?g)",
		"the_eq": "Trueprop (Equal (The (%x. Equal x ?a)) (?a::?'a))", "eq_reflection": "Trueprop (Equal (?x::?'a) ?y) ==> (?x == ?y)", "if_false": "Trueprop (Not ?P) ==> Trueprop (Equal (If ?P ?x ?y) (?y::?'a))",
		"nat_induct": "Trueprop (?P Zero) ==> (!!n. Trueprop (?P n) ==> Trueprop (?P (Suc n))) ==> Trueprop (?P ?n)", "Suc_Zero": "Trueprop (Equal (Suc ?n) Zero) ==> Trueprop ?P",
		"times_Suc": "Trueprop (Equal (times (Suc ?m) ?n) (plus ?n (times ?m ?n)))", "less_Zero": "Trueprop (Equal (less ?m Zero) False)",
		"allE": "Trueprop (All ?P) ==> (Trueprop (?P (?x::?'a)) ==> Trueprop ?R) ==> Trueprop ?R", "meta_eq": "((?x::?'a) == ?y) ==> Trueprop (Equal ?x ?y)", "cong": "Trueprop (Equal ?f ?g) ==> Trueprop (Equal (?x::?'a) ?y) ==> Trueprop (Equal (?f ?x) (?g ?y :: ?'b))",
		"the_equality": "Trueprop (?P (?a::?'a)) ==> (!!x. Trueprop (?P x) ==> Trueprop (Equal x ?a)) ==> Trueprop (Equal (The ?P) ?a)", "not_disj": "Trueprop (Equal (Not (Or ?P ?Q)) (And (Not ?P) (Not ?Q)))",
		"not_all": "Trueprop (Equal (Not (All ?P)) (Ex (%x::?'a. Not (?P x))))", "imp_False2": "Trueprop (Equal (Implies ?P False) (Not ?P))", "all_simp": "Trueprop (Equal (All (%x::?'a. ?P)) ?P)",
		"conj_cong": "Trueprop (Equal ?P ?P') ==> (Trueprop ?P' ==> Trueprop (Equal ?Q ?Q')) ==> Trueprop (Equal (And ?P ?Q) (And ?P' ?Q'))",
		"if_cong":   "Trueprop (Equal ?P ?Q) ==> (Trueprop ?Q ==> Trueprop (Equal ?x ?u)) ==> (Trueprop (Not ?Q) ==> Trueprop (Equal ?y ?v)) ==> Trueprop (Equal (If ?P (?x::?'a) ?y) (If ?Q ?u ?v))",
		"if_split":  "Trueprop (Equal (?P (If ?Q (?x::?'a) ?y)) (And (Implies ?Q (?P ?x)) (Implies (Not ?Q) (?P ?y))))", "plus_le_mono": "Trueprop (le ?k ?m) ==> Trueprop (le ?i ?n) ==> Trueprop (le (plus ?k ?i) (plus ?m ?n))",
		"le_diff": "Trueprop (le ?m ?n) ==> Trueprop (Ex (%k. Equal ?n (plus ?m k)))", "nat_cases": "(Trueprop (Equal ?n Zero) ==> Trueprop ?P) ==> (!!m. Trueprop (Equal ?n (Suc m)) ==> Trueprop ?P) ==> Trueprop ?P", "Suc_eq": "Trueprop (Equal (Equal (Suc ?m) (Suc ?n)) (Equal ?m ?n))",
	} {
		s = strings.ReplaceAll(strings.ReplaceAll(s, "!!x::?'a.", "!!(x::?'a)."), "%x::?'a.", "%(x::?'a).")
		if want := read(thy, s); !term.Equal(all[name], want) {
			t.Error(name)
		}
	}
}

// The variables of all rules have the types that the document says.
func TestP191Variables(t *testing.T) {
	a, b := typ("?'a"), typ("?'b")
	for i, l := range [][]Named{Rules(), NatRules()} {
		for _, n := range l {
			for _, v := range term.Vars(n.Prop) {
				ok := v.Num == 0
				switch v.Name[0] {
				case 'P', 'Q', 'R':
					ok = ok && (types.Equal(v.Type, BoolType()) || i == 0 && types.Equal(v.Type, types.Fun(a, BoolType())))
				case 'f', 'g':
					ok = ok && types.Equal(v.Type, types.Fun(a, b))
				case 'k', 'm', 'n', 'i':
					ok = ok && types.Equal(v.Type, NatType())
				default:
					ok = ok && types.Equal(v.Type, a)
				}
				if !ok {
					t.Error(n.Name, v.Name)
				}
			}
		}
	}
	if r := Rules(); r[0].Name != "conjE" || r[18].Name != "not_disj" || r[len(r)-1].Name != "if_split" {
		t.Error("order")
	}
	if r := NatRules(); r[0].Name != "plus_Zero2" || r[len(r)-1].Name != "nat_cases" {
		t.Error("order")
	}
}

func TestP192Derived(t *testing.T) {
	for i, thy := range []api.Theory{HOL(), Nat()} {
		l := [][]Named{Rules(), NatRules()}[i]
		for _, a := range thy.Axioms[[]int{1, 26}[i]:] {
			l = append(l, Named{a.Name, a.Prop})
		}
		for _, n := range l {
			th, e := Rule(n.Name)
			if e != api.OK || !term.Equal(th.Prop(), n.Prop) || th.Theory().Name != thy.Name {
				t.Fatal(n.Name, e)
			}
			s, e := checker.Check(thy, th.Proof())
			if e != api.OK || len(s.Hyps) > 0 || len(s.Oracles) > 0 || !term.Equal(s.Prop, n.Prop) || len(th.Hyps()) > 0 || len(th.Oracles()) > 0 {
				t.Error(n.Name, e)
			}
		}
	}
	if th, e := Rule("protect_def"); e != api.OK || th.Theory().Name != "HOL" {
		t.Error("the axiom of Pure", e)
	}
	for _, name := range []string{"", "none", "conjE ", "HOL"} {
		if th, e := Rule(name); e != api.ErrMissing || th.Is() {
			t.Error(name, e)
		}
	}
}

func TestP192Book(t *testing.T) {
	b, e := NewBook(HOL())
	if e != api.OK {
		t.Fatal(e)
	}
	if th, e := b.Rule("cong"); e != api.OK || th.Theory().Name != "HOL" {
		t.Error(e)
	}
	if _, e := b.Rule("plus_Suc"); e != api.ErrMissing {
		t.Error("of Nat", e)
	}
	if _, e := b.Rule("le_refl"); e == api.OK {
		t.Error("derived, of Nat")
	}
	if _, e := NewBook(theory.Pure()); e != api.ErrTheory {
		t.Error(e)
	}
	if _, e := NewBook(api.Theory{}); e != theory.Check(api.Theory{}) {
		t.Error(e)
	}
}

func TestP193True(t *testing.T) {
	thy := HOL()
	thy.Types = append(thy.Types, api.TypeDecl{Name: "t"})
	one := model.Model{Carriers: []model.Carrier{{Name: "t", Cases: make([][]api.Type, 1)}}, Ground: []api.Type{{Op: api.TCon, Name: "t"}, BoolType()}}
	two := model.Model{Carriers: []model.Carrier{{Name: "t", Cases: make([][]api.Type, 2)}}, Ground: []api.Type{{Op: api.TCon, Name: "t"}}}
	for _, m := range []model.Model{one, two} {
		if ok, name, e := model.True(thy, m); e != api.OK || !ok {
			t.Error(name, e)
		}
		for _, n := range Rules() {
			if ok, _, e := model.Holds(thy, m, nil, n.Prop); e != api.OK || !ok {
				t.Error(n.Name, ok, e)
			}
		}
	}
}

// number evaluates a term of numbers and truth values; the variables have values.
func number(t api.Term, values map[string]int, bound []int) int {
	is := func(b bool) int {
		if b {
			return 1
		}
		return 0
	}
	f, l := term.Spine(t)
	arg := func(i int) int { return number(l[i], values, bound) }
	switch f.Name {
	case "True":
		return 1
	case "False", "Zero":
		return 0
	case "Not":
		return 1 - arg(0)
	case "And":
		return arg(0) * arg(1)
	case "Or":
		return max(arg(0), arg(1))
	case "imp", "Implies":
		return max(1-arg(0), arg(1))
	case "Equal":
		return is(arg(0) == arg(1))
	case "Trueprop":
		return arg(0)
	case "Suc":
		return arg(0) + 1
	case "plus":
		return arg(0) + arg(1)
	case "times":
		return arg(0) * arg(1)
	case "le":
		return is(arg(0) <= arg(1))
	case "less":
		return is(arg(0) < arg(1))
	case "Ex":
		for n := range 20 {
			if number(l[0].Kids[0], values, append(slices.Clone(bound), n)) == 1 {
				return 1
			}
		}
		return 0
	}
	if f.Op == api.Bound {
		return bound[len(bound)-1-f.Num]
	}
	v, ok := values[f.Name]
	if !ok {
		panic(f.Name)
	}
	return v
}

func TestP194Numbers(t *testing.T) {
	l := NatRules()
	for _, a := range Nat().Axioms[26:] {
		l = append(l, Named{a.Name, a.Prop})
	}
	asked := 0
	for _, n := range l {
		vars := term.Vars(n.Prop)
		if slices.ContainsFunc(vars, func(v api.Term) bool { return v.Name == "P" }) {
			continue
		}
		asked++
		for k := range 625 {
			values := map[string]int{}
			for _, v := range vars {
				values[v.Name] = k % 5
				k /= 5
			}
			if number(n.Prop, values, nil) != 1 {
				t.Error(n.Name, values)
			}
		}
	}
	if asked != 20+11 {
		t.Error(asked)
	}
}

func TestP195Terms(t *testing.T) {
	thy := Nat()
	free := func(name string, k api.Type) api.Term { return api.Term{Op: api.Free, Name: name, Type: k} }
	p, q, n, m := free("p", BoolType()), free("q", BoolType()), free("n", NatType()), free("m", NatType())
	must := func(a api.Term, e api.Errno) api.Term {
		if e != api.OK {
			t.Error(e)
		}
		return a
	}
	for s, x := range map[string]api.Term{
		"True": True(), "False": False(), "Not p": Not(p), "And p q": And(p, q), "Or p q": Or(p, q), "Implies p q": Implies(p, q),
		"Equal (n::nat) m": must(Equal(n, m)), "All (%(n::nat). Equal n m)": must(All(n, must(Equal(n, m)))), "Ex (%(n::nat). p)": must(Ex(n, p)), "The (%(n::nat). Equal n m)": must(The(n, must(Equal(n, m)))), "If p (n::nat) m": must(If(p, n, m)),
		"Trueprop p": Truth(p), "Suc (Suc Zero)": must(Numeral(2)), "Zero": must(Numeral(0)),
	} {
		if !term.Equal(x, read(thy, s)) {
			t.Error(s)
		}
		k, e := term.Check(thy, x)
		if want := strings.HasPrefix(s, "The") || strings.HasPrefix(s, "If") || s == "Zero" || s[0] == 'S'; e != api.OK || s != "Trueprop p" && (k.Name == "bool") == want {
			t.Error(s, e, k)
		}
	}
	if x := must(All(n, p)); x.Kids[1].Name != "n" {
		t.Error("the name of the abstraction")
	}
	if a, ok := Untruth(Truth(n)); !ok || !term.Equal(a, n) {
		t.Error("Untruth")
	}
	other := Truth(p)
	other.Kids[0].Type = types.Fun(NatType(), types.Prop())
	for i, x := range []api.Term{p, {}, other, {Op: api.App, Kids: []api.Term{Truth(p).Kids[0]}}, app2(Not(p).Kids[0], p)} {
		if a, ok := Untruth(x); ok || a.Op != 0 {
			t.Error(i)
		}
	}
	if Truth(api.Term{}).Op != api.App {
		t.Error("of any term")
	}
}

func app2(f, a api.Term) api.Term { return api.Term{Op: api.App, Kids: []api.Term{f, a}} }

func TestP195Errors(t *testing.T) {
	n, p := api.Term{Op: api.Free, Name: "n", Type: NatType()}, api.Term{Op: api.Free, Name: "p", Type: BoolType()}
	bad := api.Term{Op: api.Bound}
	for i, f := range []func() (api.Term, api.Errno){
		func() (api.Term, api.Errno) { return Equal(n, p) }, func() (api.Term, api.Errno) { return Equal(bad, n) }, func() (api.Term, api.Errno) { return Equal(n, bad) }, func() (api.Term, api.Errno) { return Equal(bad, bad) },
		func() (api.Term, api.Errno) { return All(n, n) }, func() (api.Term, api.Errno) { return All(bad, p) }, func() (api.Term, api.Errno) { return Ex(True(), p) }, func() (api.Term, api.Errno) { return The(n, bad) },
		func() (api.Term, api.Errno) { return If(n, n, n) }, func() (api.Term, api.Errno) { return If(p, n, p) }, func() (api.Term, api.Errno) { return If(p, bad, n) }, func() (api.Term, api.Errno) { return If(bad, n, n) },
	} {
		if x, e := f(); e != ErrTerm || x.Op != 0 {
			t.Error(i, e)
		}
	}
	for _, n := range []int{-1, 91, -1 << 63, 1<<63 - 1} {
		if _, e := Numeral(n); e != api.ErrRange {
			t.Error(n, e)
		}
	}
}

func TestP195Numbers(t *testing.T) {
	x := constant("Zero", api.Type{})
	for n := range 1000 {
		if k, ok := Number(x); !ok || k != n {
			t.Fatal(n, k)
		}
		if y, e := Numeral(n); n <= 90 && (e != api.OK || !term.Equal(x, y)) {
			t.Fatal(n, e)
		}
		x = applied("Suc", api.Type{}, x)
	}
	for _, s := range []string{"Suc n", "True", "plus Zero Zero", "Suc", "Suc (plus Zero Zero)"} {
		if k, ok := Number(read(Nat(), s)); ok || k != 0 {
			t.Error(s)
		}
	}
	if _, ok := Number(api.Term{}); ok {
		t.Error("of none")
	}
}

// What was returned can be changed without changing what is returned next; any terms are arguments.
func TestP191Memory(t *testing.T) {
	a := HOL()
	a.Axioms[3].Prop.Kids[0] = api.Term{}
	a.Consts[5].Type.Name = "x"
	if theory.Check(HOL()) != api.OK {
		t.Error("the theory")
	}
	p := api.Term{Op: api.Free, Name: "p", Type: BoolType()}
	x := And(p, p)
	x.Kids[1].Name = "q"
	if p.Name != "p" || x.Kids[0].Kids[1].Name != "p" {
		t.Error("the argument")
	}
	m := rand.New(rand.NewSource(19))
	var any func(n int) api.Term
	any = func(n int) api.Term {
		t := api.Term{Op: m.Intn(8) - 1, Name: []string{"", "Trueprop", "x", "Suc"}[m.Intn(4)], Num: m.Intn(3) - 1, Type: []api.Type{{}, BoolType(), {Op: 1, Name: "fun"}}[m.Intn(3)]}
		for range m.Intn(3) {
			if n > 0 {
				t.Kids = append(t.Kids, any(n-1))
			}
		}
		return t
	}
	for range 2000 {
		a, b, c := any(3), any(3), any(3)
		Truth(a)
		Untruth(b)
		Number(c)
		Equal(a, b)
		All(a, b)
		Ex(b, c)
		The(c, a)
		If(a, b, c)
		Implies(Or(And(a, b), c), Not(b))
	}
}
