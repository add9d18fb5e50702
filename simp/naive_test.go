package simp

import (
	"math/rand"
	"slices"
	"testing"

	"triforium/api"
	"triforium/hol"
	"triforium/kernel"
	"triforium/pattern"
	"triforium/term"
	"triforium/testlang"
	"triforium/types"
)

// The simplification in the words of the document, of terms alone.

type law struct {
	conds       []api.Term
	left, right api.Term
	ordered     bool
}

type plain struct {
	thy        api.Theory
	congs      []kernel.Theorem
	names      []string
	used, fuel int
}

// naiveSimplify returns what a term becomes.
func naiveSimplify(thy api.Theory, s Set, t api.Term, depth, fuel int) (out api.Term, code api.Errno) {
	defer func() {
		if r := recover(); r != nil {
			out, code = api.Term{}, r.(api.Errno)
		}
	}()
	p := &plain{thy: thy, congs: s.Congs, fuel: fuel, names: s.names(nil, t)}
	var laws []law
	for _, r := range s.Rules {
		laws = append(laws, p.law(r.Prop()))
	}
	return p.simp(t, laws, depth, nil), api.OK
}

func (p *plain) law(prop api.Term) law {
	conds, c := term.Strip(prop)
	a, b, _ := term.IsEq(c)
	by := max(term.MaxIndex(a), term.MaxIndex(b), -1) + 1
	_, e := pattern.Match(p.thy, term.Raise(a, by), b)
	_, f := pattern.Match(p.thy, term.Raise(b, by), a)
	return law{conds, a, b, e == api.OK && f == api.OK}
}

func (p *plain) norm(t api.Term) api.Term {
	n, e := term.Norm(t, 1000)
	if e != api.OK {
		panic(e)
	}
	if nodes, depth := term.Size(n); nodes > 400 || depth > 50 {
		panic(api.ErrLarge)
	}
	return n
}

func (p *plain) attempt() {
	if p.used == p.fuel {
		panic(api.ErrFuel)
	}
	p.used++
}

func (p *plain) simp(t api.Term, laws []law, depth int, around []string) api.Term {
	u := p.inside(t, laws, depth, around)
	if n := p.norm(u); !term.Equal(n, u) {
		return p.simp(n, laws, depth, around)
	}
	by := term.MaxIndex(u) + 1
	for _, l := range laws {
		i, e := pattern.Match(p.thy, term.Raise(l.left, by), u)
		if e != api.OK {
			continue
		}
		v := p.norm(term.Apply(i, term.Raise(l.right, by)))
		if term.Equal(u, v) || l.ordered && term.Compare(v, u) != -1 {
			continue
		}
		p.attempt()
		holds := true
		for _, c := range l.conds {
			holds = holds && depth > 0 && term.Equal(p.simp(p.norm(term.Apply(i, term.Raise(c, by))), laws, depth-1, around), hol.Truth(hol.True()))
		}
		if holds {
			return p.simp(v, laws, depth, around)
		}
	}
	return u
}

func (p *plain) inside(t api.Term, laws []law, depth int, around []string) api.Term {
	c, l := term.Spine(t)
	for _, r := range p.congs {
		premises, concl := term.Strip(r.Prop())
		left, right, _ := term.IsEq(concl)
		d, xs := term.Spine(left)
		if c.Op != api.Const || d.Name != c.Name || len(xs) != len(l) {
			continue
		}
		by := term.MaxIndex(t) + 1
		i, e := pattern.Match(p.thy, term.Raise(left, by), t)
		if e != api.OK {
			break
		}
		for _, q := range premises {
			assumed, eq := term.Strip(q)
			x, y, _ := term.IsEq(eq)
			var more []law
			for _, a := range assumed {
				a = p.norm(term.Apply(i, term.Raise(a, by)))
				if len(term.Vars(a)) == 0 && !slices.ContainsFunc(term.TypeVariables(a), func(k api.Type) bool { return k.Op == api.TVar }) {
					more = append(more, p.laws(nil, a)...)
				}
			}
			to := p.simp(term.Apply(i, term.Raise(x, by)), append(more, laws...), depth, around)
			i.Terms = append(i.Terms, api.TermBind{Name: y.Name, Index: y.Num + by, To: to})
		}
		return term.Apply(i, term.Raise(right, by))
	}
	switch t.Op {
	case api.App:
		f := p.simp(t.Kids[0], laws, depth, around)
		return api.Term{Op: api.App, Kids: []api.Term{f, p.simp(t.Kids[1], laws, depth, around)}}
	case api.Abs:
		x := api.Term{Op: api.Free, Name: term.Variant("x", append(slices.Clone(around), p.names...)), Type: t.Type}
		b := p.simp(term.Put(t.Kids[0], x), laws, depth, append(slices.Clone(around), x.Name))
		return api.Term{Op: api.Abs, Name: "x", Type: t.Type, Kids: []api.Term{term.Bind(x, b)}}
	}
	return t
}

// laws are the equations of a proposition.
func (p *plain) laws(conds []api.Term, c api.Term) []law {
	if a, b, ok := term.IsEq(c); ok {
		if !p.right(conds, a, b) {
			return nil
		}
		return []law{p.law(implied(conds, c))}
	}
	q, ok := hol.Untruth(c)
	if !ok {
		return nil
	}
	value := func(a, b api.Term) []law {
		eq, _ := term.Eq(a, b)
		return p.laws(conds, eq)
	}
	f, l := term.Spine(q)
	switch {
	case f.Name == "True" && len(l) == 0:
		return nil
	case f.Name == "And" && len(l) == 2:
		return append(p.laws(conds, hol.Truth(l[0])), p.laws(conds, hol.Truth(l[1]))...)
	case f.Name == "Implies" && len(l) == 2:
		return p.laws(append(slices.Clone(conds), hol.Truth(l[0])), hol.Truth(l[1]))
	case f.Name == "Not" && len(l) == 1:
		return value(l[0], hol.False())
	case f.Name == "Equal" && len(l) == 2 && p.right(conds, l[0], l[1]):
		return value(l[0], l[1])
	case f.Name == "All" && len(l) == 1:
		k, _ := term.TypeOf(l[0])
		n := 0
		for _, t := range append(slices.Clone(conds), c) {
			n = max(n, term.MaxIndex(t)+1)
		}
		v := api.Term{Op: api.Var, Name: "x", Num: n, Type: k.Args[0]}
		if l[0].Op == api.Abs && l[0].Name != "" {
			v.Name = l[0].Name
		}
		now := api.Term{Op: api.App, Kids: []api.Term{l[0], v}}
		if l[0].Op == api.Abs {
			now = term.Put(l[0].Kids[0], v)
		}
		return p.laws(conds, hol.Truth(now))
	}
	return value(q, hol.True())
}

func implied(conds []api.Term, c api.Term) api.Term {
	for _, a := range slices.Backward(conds) {
		c = term.Imp(a, c)
	}
	return c
}

// right reports whether an equation with conditions is one.
func (p *plain) right(conds []api.Term, a, b api.Term) bool {
	head, _ := term.Spine(a)
	known := map[string]bool{}
	for _, v := range term.Vars(a) {
		known[v.Name+" "+string(rune(v.Num))] = true
	}
	for _, t := range append(slices.Clone(conds), b) {
		for _, v := range term.Vars(t) {
			if !known[v.Name+" "+string(rune(v.Num))] {
				return false
			}
		}
	}
	for _, c := range conds {
		if _, ok := hol.Untruth(c); !ok {
			return false
		}
	}
	return head.Op != api.Var && len(conds) <= 10
}

// maker makes terms by chance.
type maker struct{ *rand.Rand }

func (m maker) number(depth int, bound []string) string {
	if depth == 0 || m.Intn(4) == 0 {
		return append([]string{"c", "d", "Zero", "x", "y"}, bound...)[m.Intn(5+len(bound))]
	}
	a := func() string { return "(" + m.number(depth-1, bound) + ")" }
	switch m.Intn(6) {
	case 0:
		return "g " + a()
	case 1:
		return "f " + a() + a()
	case 2:
		return a() + "+" + a()
	case 3:
		return "(if " + m.formula(depth-1, bound) + " then " + m.number(depth-1, bound) + " else " + a() + ")"
	case 4:
		return "h (%z. " + m.number(depth-1, append(slices.Clone(bound), "z")) + ")"
	}
	return "(%z. z + (" + m.number(depth-1, append(slices.Clone(bound), "z")) + "))" + a()
}

func (m maker) formula(depth int, bound []string) string {
	if depth == 0 {
		return []string{"True", "False", "A", "B"}[m.Intn(4)]
	}
	a := func() string { return "(" + m.formula(depth-1, bound) + ")" }
	switch m.Intn(9) {
	case 0:
		return a() + "&" + a()
	case 1:
		return a() + "|" + a()
	case 2, 3:
		return a() + "-->" + a()
	case 4:
		return "~ " + a()
	case 5:
		return "(" + m.number(depth-1, bound) + ") = (" + m.number(depth-1, bound) + ")"
	case 6:
		return "(ALL (z::nat). " + m.formula(depth-1, append(slices.Clone(bound), "z")) + ")"
	case 7:
		return "p (" + m.number(depth-1, bound) + ")"
	}
	return "q (" + m.number(depth-1, bound) + ")"
}

func TestP211Random(t *testing.T) {
	thy := small()
	m := maker{rand.New(rand.NewSource(21))}
	base := standard(t)
	codes := map[api.Errno]int{}
	for range 250 {
		s := Set{}
		if m.Intn(3) > 0 {
			s = Set{Rules: slices.Clone(base.Rules), Congs: slices.Clone(base.Congs)}
		}
		for _, name := range []string{"g_n", "swap", "assoc", "left", "f_cond", "zero_le", "two", "meta_c", "c_d", "h_x", "grow"} {
			if m.Intn(3) == 0 {
				s.Rules = append(s.Rules, facts(name)...)
			}
		}
		x := hol.Truth(testlang.Term(thy, m.formula(4, nil)))
		x = term.Apply(api.Inst{Types: []api.TypeBind{}}, x)
		depth, fuel := m.Intn(4), []int{0, 2, 10, 200}[m.Intn(4)]
		want, code := naiveSimplify(thy, s, x, depth, fuel)
		th, e := Rewrite(thy, s, nil, x, depth, fuel)
		codes[e]++
		if e != code {
			t.Fatal(testlang.Text(thy, x), e, "not", code)
		}
		if e != api.OK {
			continue
		}
		if _, b, _ := term.IsEq(th.Prop()); !term.Equal(b, want) {
			t.Fatal(testlang.Text(thy, x), "became", testlang.Text(thy, b), "not", testlang.Text(thy, want))
		}
		if m.Intn(5) == 0 && testlang.Fault(th) != "" {
			t.Fatal(testlang.Fault(th))
		}
	}
	if codes[api.OK] < 60 || codes[api.ErrFuel] < 10 {
		t.Error(codes)
	}
}

func TestP214Normal(t *testing.T) {
	thy := small()
	m := maker{rand.New(rand.NewSource(214))}
	s := Set{Rules: facts("g_n assoc zero_le h_x c_d")}
	for range 150 {
		x := testlang.Term(thy, m.formula(4, nil))
		th, e := Rewrite(thy, s, nil, x, 2, 2000)
		if e != api.OK {
			continue
		}
		_, y, _ := term.IsEq(th.Prop())
		if again, e := Rewrite(thy, s, nil, y, 0, 0); e != api.OK || !term.Equal(again.Prop().Kids[1], y) {
			t.Error(testlang.Text(thy, y), e)
		}
	}
}

// worth is the value of a formula without variables.
func worth(x api.Term) bool {
	f, l := term.Spine(x)
	switch f.Name {
	case "Not":
		return !worth(l[0])
	case "And":
		return worth(l[0]) && worth(l[1])
	case "Or":
		return worth(l[0]) || worth(l[1])
	case "Implies":
		return !worth(l[0]) || worth(l[1])
	}
	return f.Name == "True"
}

func TestP215Decided(t *testing.T) {
	m := rand.New(rand.NewSource(215))
	s, e := Standard(hol.HOL())
	if e != api.OK {
		t.Fatal(e)
	}
	var formula func(depth int) api.Term
	formula = func(depth int) api.Term {
		if depth == 0 || m.Intn(8) == 0 {
			return []api.Term{hol.True(), hol.False()}[m.Intn(2)]
		}
		switch m.Intn(4) {
		case 0:
			return hol.Not(formula(depth - 1))
		case 1:
			return hol.And(formula(depth-1), formula(depth-1))
		case 2:
			return hol.Or(formula(depth-1), formula(depth-1))
		}
		return hol.Implies(formula(depth-1), formula(depth-1))
	}
	for range 150 {
		x := formula(5)
		want := hol.False()
		if worth(x) {
			want = hol.True()
		}
		th, e := Rewrite(hol.HOL(), s, nil, x, 0, 2000)
		if e != api.OK || !term.Equal(th.Prop().Kids[1], want) {
			t.Error(e, testlang.Text(hol.HOL(), x), testlang.Sequent(th))
		}
	}
}

// Whatever the arguments are, there is a result.
func TestP1Garbage(t *testing.T) {
	thy := small()
	bad := []api.Term{{}, {Op: api.App}, {Op: api.Abs, Kids: []api.Term{{}}}, {Op: 99}, {Op: api.Free, Name: "x", Num: -1, Type: types.Prop()}}
	for _, x := range bad {
		if _, e := Rewrite(thy, Set{}, nil, x, 0, 9); e == api.OK {
			t.Error(x)
		}
		if _, e := Split(thy, x); e == api.OK {
			t.Error(x)
		}
		if e := Check(thy, Set{Procs: []Proc{{Pattern: x}}}); e == api.OK {
			t.Error(x)
		}
	}
	var none kernel.Theorem
	for _, n := range []int{-1 << 63, 1<<63 - 1} {
		Goal(Set{}, none, n, n, n)
		Simplify(thy, Set{}, none, n, n)
	}
}
