package kernel

import (
	"fmt"
	"math"
	"math/rand"
	"slices"
	"testing"

	"triforium/api"
	"triforium/checker"
	"triforium/proof"
	"triforium/term"
	"triforium/theory"
	"triforium/types"
)

// gen makes random scripts. What it takes often fits to theorems that are there, and sometimes is nothing right.
type gen struct {
	*rand.Rand
	theories []api.Theory
	player   player
	script   []Step
	results  []Result
	names    map[string]string // of the variables of each type
}

func newGen(seed int, theories ...api.Theory) *gen {
	g := &gen{Rand: rand.New(rand.NewSource(int64(seed))), theories: theories, names: map[string]string{}}
	g.player = player{theories: theories, bases: make([]*base, len(theories))}
	return g
}

func (g *gen) typ(depth int) api.Type {
	if depth > 0 && g.Intn(2) == 0 {
		return types.Fun(g.typ(depth-1), g.typ(depth-1))
	}
	return typ([]string{"N", "P", "'a", "'b{ord}", "?a.0", "?b.0{ord}", "list(N)", "N"}[g.Intn(8)])
}

// name returns the name of the variables of a type; now and then one that others have, too.
func (g *gen) name(t api.Type) string {
	if g.Intn(40) == 0 {
		return "x"
	}
	key, _ := types.Text(t)
	if g.names[key] == "" {
		g.names[key] = fmt.Sprint("v", len(g.names))
	}
	return g.names[key]
}

// term returns a term of a type within abstractions of some types; the outermost one is the first one.
func (g *gen) term(t api.Type, around []api.Type, depth int) api.Term {
	if depth > 0 {
		a := g.typ(1)
		switch k := g.Intn(8); {
		case k < 2:
			return app(g.term(types.Fun(a, t), around, depth-1), g.term(a, around, depth-1))
		case k < 4 && types.Equal(t, types.Prop()):
			return g.prop(around, depth)
		case k == 4:
			op := api.Term{Op: api.Const, Name: "op", Type: types.Fun(t, types.Fun(t, t))}
			return app(app(op, g.term(t, around, depth-1)), g.term(t, around, depth-1))
		}
		if types.IsFun(t) {
			return api.Term{Op: api.Abs, Name: []string{"x", "y", ""}[g.Intn(3)], Type: t.Args[0], Kids: []api.Term{g.term(t.Args[1], append(slices.Clone(around), t.Args[0]), depth-1)}}
		}
	}
	for range around {
		if i := g.Intn(len(around)); types.Equal(around[len(around)-1-i], t) {
			return api.Term{Op: api.Bound, Num: i}
		}
	}
	switch g.Intn(6) {
	case 0:
		return api.Term{Op: api.Const, Name: "some", Type: t}
	case 1, 2:
		return api.Term{Op: api.Var, Name: g.name(t), Num: g.Intn(2), Type: t}
	}
	return api.Term{Op: api.Free, Name: g.name(t), Type: t}
}

func (g *gen) prop(around []api.Type, depth int) api.Term {
	p := types.Prop()
	if depth == 0 {
		return g.term(p, around, 0)
	}
	t := g.typ(1)
	switch g.Intn(4) {
	case 0:
		return equation(t, g.term(t, around, depth-1), g.term(t, around, depth-1))
	case 1:
		all := api.Term{Op: api.Const, Name: "all", Type: types.Fun(types.Fun(t, p), p)}
		return app(all, api.Term{Op: api.Abs, Name: "x", Type: t, Kids: []api.Term{g.term(p, append(slices.Clone(around), t), depth-1)}})
	case 2:
		return term.Imp(g.term(p, around, depth-1), g.term(p, around, depth-1))
	}
	return g.term(p, around, depth-1)
}

// wild returns a term that is often not right.
func (g *gen) wild() api.Term {
	t := g.term(g.typ(1), nil, 2)
	switch g.Intn(8) {
	case 0:
		t.Op = g.Intn(9) - 1
	case 1:
		t.Type = api.Type{Op: g.Intn(5), Name: "nat", Index: g.Intn(3) - 1}
	case 2:
		t.Num = []int{-1, 1000001, math.MaxInt}[g.Intn(3)]
	case 3:
		t.Name = []string{"", "1", "imp", "\xff"}[g.Intn(4)]
	case 4:
		t.Kids = append(t.Kids, api.Term{Op: api.Bound, Num: g.Intn(2)})
	case 5:
		t = app(t, g.term(g.typ(1), nil, 1))
	case 6:
		t.Type.Sort = []string{"lin", "ord"}[g.Intn(2):]
	}
	return t
}

// any returns the number of a register, most often one with a theorem.
func (g *gen) any() int {
	if len(g.results) == 0 {
		return 0
	}
	for range 6 {
		if i := g.Intn(len(g.results)); g.results[i].Theorem.Is() {
			return i
		}
	}
	return g.Intn(len(g.results)+2) - 1
}

func (g *gen) theorem(i int) Theorem {
	if i < 0 || i >= len(g.results) {
		return Theorem{}
	}
	return g.results[i].Theorem
}

// such returns the number of a theorem with a proposition as a function says, if there is one.
func (g *gen) such(is func(api.Term) bool) int {
	from := 0
	if len(g.results) > 0 {
		from = g.Intn(len(g.results))
	}
	for i := range g.results {
		k := (from + i) % len(g.results)
		if g.results[k].Theorem.Is() && is(g.results[k].Theorem.s.prop) {
			return k
		}
	}
	return g.any()
}

func (g *gen) states(p api.Term) int {
	return g.such(func(q api.Term) bool { return term.Equal(p, q) })
}

func isEq(p api.Term) bool { a, _ := operands(&p, "eq"); return a != nil }

func isImp(p api.Term) bool { a, _ := operands(&p, "imp"); return a != nil }

// free returns a Free of a proposition, or another one.
func (g *gen) free(p api.Term) api.Term {
	if l := term.Frees(p); len(l) > 0 && g.Intn(4) > 0 {
		return l[g.Intn(len(l))]
	}
	return g.term(g.typ(1), nil, 0)
}

// step returns a step that may well make a theorem.
func (g *gen) step() Step {
	s := Step{Rule: g.Intn(LastRule+4) - 1, Theory: g.Intn(len(g.theories))}
	a := g.any()
	p := api.Term{}
	if t := g.theorem(a); t.Is() {
		p = t.s.prop
	}
	switch s.Rule {
	case api.ByAxiom:
		s.Name = []string{"z_s", "le_refl", "op_com", "protect_def", "any", "none"}[g.Intn(6)]
	case api.ByOracle:
		s.Name, s.Term = []string{"believe", "trust", "more", "none"}[g.Intn(4)], g.prop(nil, 3)
	case api.Assume:
		s.Term = g.prop(nil, 3)
		if x, _ := operands(&p, "imp"); x != nil && g.Intn(2) == 0 {
			s.Term = *x
		}
	case api.ImpIntro:
		s.From, s.Term = []int{a}, g.prop(nil, 2)
		if t := g.theorem(a); t.Is() && len(t.s.hyps) > 0 && g.Intn(4) > 0 {
			s.Term = t.s.hyps[g.Intn(len(t.s.hyps))]
		}
	case api.AllIntro, api.Abstraction:
		if s.Rule == api.Abstraction {
			a = g.such(isEq)
			p = g.theorem(a).Prop()
		}
		s.From, s.Term = []int{a}, g.free(p)
	case api.AllElim:
		a = g.such(func(p api.Term) bool { _, ok := term.IsAll(p); return ok })
		s.From, s.Term = []int{a}, g.term(g.typ(1), nil, 2)
		if abs, ok := term.IsAll(g.theorem(a).Prop()); ok && g.Intn(4) > 0 {
			s.Term = g.term(abs.Type, nil, 2)
		}
	case api.Reflexive:
		s.Term = g.term(g.typ(2), nil, 3)
	case api.Beta:
		k := g.typ(1)
		s.Term = app(api.Term{Op: api.Abs, Name: "x", Type: k, Kids: []api.Term{g.term(g.typ(1), []api.Type{k}, 3)}}, g.term(k, nil, 2))
	case api.Eta:
		k := g.typ(1)
		s.Term = api.Term{Op: api.Abs, Name: "x", Type: k, Kids: []api.Term{app(g.term(types.Fun(k, g.typ(1)), []api.Type{typ("P")}[:g.Intn(2)], 2), api.Term{Op: api.Bound})}}
	case api.Instantiate:
		s.From, s.Inst = []int{a}, g.inst(p)
	case api.Generalize:
		s.From, s.Num = []int{a}, []int{0, 1, 2, 3, -1, 1000000, 1000001}[g.Intn(7)]
		for _, f := range term.Frees(p) {
			if g.Intn(2) == 0 && !slices.Contains(s.TermNames, f.Name) {
				s.TermNames = append(s.TermNames, f.Name)
			}
		}
		s.TypeNames = [][]string{nil, {"a"}, {"b", "a"}, {"q"}, {"a", "a"}}[g.Intn(5)]
	case TransferRule:
		s.From = []int{a}
	default:
		s.From = g.pair(s.Rule, a)
		s = g.preparing(s)
	}
	if s.Term.Op != 0 && g.Intn(15) == 0 {
		s.Term = g.wild()
	}
	if g.Intn(30) == 0 {
		s.From = append(s.From, g.any())
	}
	return s
}

// pair returns registers for the rules that take one theorem, or two.
func (g *gen) pair(rule, a int) []int {
	switch rule {
	case api.Symmetric:
		return []int{g.such(isEq)}
	case api.ImpElim:
		a = g.such(isImp)
		if x, _, ok := term.IsImp(g.theorem(a).Prop()); ok {
			return []int{a, g.states(x)}
		}
	case api.Transitive:
		a = g.such(isEq)
		_, b, _ := term.IsEq(g.theorem(a).Prop())
		return []int{a, g.such(func(p api.Term) bool { x, _, ok := term.IsEq(p); return ok && term.Equal(x, b) })}
	case api.Combination:
		a = g.such(func(p api.Term) bool { return isEq(p) && types.IsFun(p.Kids[0].Kids[0].Type.Args[0]) })
		var k api.Type
		if f, _, ok := term.IsEq(g.theorem(a).Prop()); ok {
			k, _ = term.TypeOf(f)
		}
		return []int{a, g.such(func(p api.Term) bool {
			return isEq(p) && (!types.IsFun(k) || types.Equal(k.Args[0], p.Kids[0].Kids[0].Type.Args[0]))
		})}
	case api.EqIntro:
		a = g.such(isImp)
		x, y, _ := term.IsImp(g.theorem(a).Prop())
		return []int{a, g.states(term.Imp(y, x))}
	case api.EqElim:
		a = g.such(func(p api.Term) bool { return isEq(p) && p.Kids[0].Kids[0].Type.Args[0].Name == "prop" })
		x, _, _ := term.IsEq(g.theorem(a).Prop())
		return []int{a, g.states(x)}
	}
	return []int{a, g.any()}
}

// preparing returns, for a step that lacks a second theorem, now and then one that makes it.
func (g *gen) preparing(s Step) Step {
	p := g.theorem(s.From[0]).Prop()
	q := g.theorem(s.From[len(s.From)-1]).Prop()
	if g.Intn(3) == 0 {
		return s
	}
	if a, _, ok := term.IsImp(p); ok && s.Rule == api.ImpElim && !term.Equal(a, q) {
		return Step{Rule: api.Assume, Theory: s.Theory, Term: a}
	}
	if a, _, ok := term.IsEq(p); ok && s.Rule == api.EqElim && !term.Equal(a, q) {
		return Step{Rule: api.Assume, Theory: s.Theory, Term: a}
	}
	if a, _, ok := term.IsEq(p); ok && s.Rule == api.Combination {
		if k, _ := term.TypeOf(a); types.IsFun(k) {
			if b, _, ok := term.IsEq(q); ok && typeText(b) != typeText(g.term(k.Args[0], nil, 0)) {
				return Step{Rule: api.Reflexive, Theory: s.Theory, Term: g.term(k.Args[0], nil, 2)}
			}
		}
	}
	return s
}

func typeText(t api.Term) string {
	k, _ := term.TypeOf(t)
	s, _ := types.Text(k)
	return s
}

// inst returns binds for variables of a proposition, and others.
func (g *gen) inst(p api.Term) api.Inst {
	var i api.Inst
	for _, v := range term.TypeVariables(p) {
		if v.Op == api.TVar && g.Intn(3) > 0 {
			i.Types = append(i.Types, api.TypeBind{Name: v.Name, Index: v.Index, To: g.typ(1)})
		}
	}
	for _, v := range term.Vars(p) {
		if g.Intn(3) > 0 {
			t := v.Type
			if g.Intn(8) > 0 {
				t = types.Apply(i.Types, t)
			}
			i.Terms = append(i.Terms, api.TermBind{Name: v.Name, Index: v.Num, To: g.term(t, nil, 2)})
		}
	}
	if g.Intn(10) == 0 {
		i.Types = append(i.Types, api.TypeBind{Name: "a", Index: g.Intn(3), To: g.typ(1)})
		i.Terms = append(i.Terms, api.TermBind{Name: "q", To: g.wild()})
	}
	return i
}

// play makes n steps.
func (g *gen) play(n int) {
	for range n {
		s := g.step()
		t, e := g.player.step(s, g.results)
		g.script = append(g.script, s)
		g.results = append(g.results, Result{t, e})
	}
}

// proofOf returns the proof that a step would have, if it has theorems.
func (g *gen) proofOf(s Step) (api.Proof, bool) {
	p := api.Proof{Op: s.Rule, Name: s.Name, Term: s.Term, Inst: s.Inst, TypeNames: s.TypeNames, TermNames: s.TermNames, Num: s.Num}
	for _, i := range s.From {
		if !g.theorem(i).Is() {
			return api.Proof{}, false
		}
		p.Kids = append(p.Kids, g.theorem(i).s.proof)
	}
	return p, s.Rule != TransferRule
}

// P6.2, P7.1 and P7.2: the checker takes just the proofs of what the kernel makes, and finds what theorems state.
func TestP62Checked(t *testing.T) {
	made, refused := map[int]int{}, map[int]int{}
	for seed := range 900 {
		g := newGen(seed, small())
		for range 60 {
			s := g.step()
			p, right := g.proofOf(s)
			th, e := g.player.step(s, g.results)
			g.script = append(g.script, s)
			g.results = append(g.results, Result{th, e})
			if !right {
				continue
			}
			x, e2 := checker.Check(small(), p)
			if (e == api.OK) != (e2 == api.OK) || e2 != api.OK && e2 != checker.ErrProof {
				t.Fatal(seed, s, e, e2)
			}
			if e != api.OK {
				refused[s.Rule]++
				continue
			}
			made[s.Rule]++
			if !checker.Same(x, sequentOf(th)) || !proof.Equal(th.Proof(), onlyOwn(p)) {
				t.Fatal(seed, s, state(th))
			}
		}
	}
	for rule := api.ByAxiom; rule < TransferRule; rule++ {
		if made[rule] < 80 || refused[rule] < 50 {
			t.Error("hardly tried", rule, made[rule], refused[rule])
		}
	}
}

// onlyOwn returns a proof without the fields that its kind does not take.
func onlyOwn(p api.Proof) api.Proof {
	out := api.Proof{Op: p.Op, Kids: p.Kids}
	switch p.Op {
	case api.ByAxiom:
		out.Name = p.Name
	case api.ByOracle:
		out.Name, out.Term = p.Name, p.Term
	case api.Instantiate:
		out.Inst = p.Inst
	case api.Generalize:
		out.TypeNames, out.TermNames, out.Num = p.TypeNames, p.TermNames, p.Num
	default:
		out.Term = p.Term
	}
	return out
}

// P6.3: hypotheses and propositions are right, in order, and fit together.
func TestP63Right(t *testing.T) {
	for seed := range 400 {
		g := newGen(seed, small(), greater())
		g.play(60)
		for i, r := range g.results {
			if r.Code != api.OK {
				if r.Theorem.Is() {
					t.Fatal(seed, i)
				}
				continue
			}
			checkRight(t, r.Theorem)
		}
	}
}

func checkRight(t *testing.T, th Theorem) {
	thy := th.Theory()
	l := th.Hyps()
	for i := 1; i < len(l); i++ {
		if term.Compare(l[i-1], l[i]) != -1 {
			t.Fatal("hypotheses are not in order", state(th))
		}
	}
	whole := th.Prop()
	for _, h := range append(l, th.Prop()) {
		k, e := term.Check(thy, h)
		if e != api.OK || !types.Equal(k, types.Prop()) {
			t.Fatal("not right", state(th), e)
		}
		whole = term.Imp(h, whole) // one term, so that variables are compared
	}
	if _, e := term.Check(thy, whole); e != api.OK {
		t.Fatal("do not fit together", state(th), e)
	}
	if o := th.Oracles(); !slices.IsSorted(o) || len(slices.Compact(slices.Clone(o))) != len(o) {
		t.Fatal(o)
	}
}

// P6.4: what is played in greater theories states the same.
func TestP64Greater(t *testing.T) {
	for seed := range 300 {
		g := newGen(seed, small(), small())
		g.play(60)
		again := Play([]api.Theory{small(), small()}, g.script)
		more := Play([]api.Theory{small(), greater()}, g.script)
		most := Play([]api.Theory{greater(), greater()}, g.script)
		for i, r := range g.results {
			if again[i].Code != r.Code || state(again[i].Theorem) != state(r.Theorem) {
				t.Fatal(seed, i, r.Code, again[i].Code)
			}
			for _, l := range [][]Result{more, most} {
				if r.Code == api.OK && g.script[i].Rule != TransferRule && l[i].Code != ErrNone && (l[i].Code != api.OK || state(l[i].Theorem) != state(r.Theorem) || !proof.Equal(l[i].Theorem.Proof(), r.Theorem.Proof())) {
					t.Fatal(seed, i, l[i].Code)
				}
			}
			if r.Code == api.OK && most[i].Code != api.OK {
				t.Fatal(seed, i, most[i].Code)
			}
		}
	}
}

// P6.6: no hypothesis and no oracle comes from nowhere, and ImpIntro leaves out one hypothesis at most.
func TestP66Few(t *testing.T) {
	for seed := range 400 {
		g := newGen(seed, small(), greater())
		g.play(60)
		for i, r := range g.results {
			s := g.script[i]
			if r.Code != api.OK {
				continue
			}
			var hyps []api.Term
			var oracles []string
			for _, k := range s.From {
				hyps = append(hyps, g.results[k].Theorem.Hyps()...)
				oracles = append(oracles, g.results[k].Theorem.Oracles()...)
			}
			switch s.Rule {
			case api.Assume:
				hyps = append(hyps, s.Term)
			case api.ByOracle:
				oracles = append(oracles, s.Name)
			case api.Instantiate:
				for k := range hyps {
					hyps[k] = term.Apply(s.Inst, hyps[k])
				}
			}
			slices.SortFunc(hyps, term.Compare)
			hyps = slices.CompactFunc(hyps, term.Equal)
			if s.Rule == api.ImpIntro {
				hyps = slices.DeleteFunc(hyps, func(h api.Term) bool { return term.Equal(h, s.Term) })
			}
			slices.Sort(oracles)
			if !slices.EqualFunc(hyps, r.Theorem.Hyps(), term.Equal) || !slices.Equal(slices.Compact(oracles), r.Theorem.Oracles()) {
				t.Fatal(seed, i, s, state(r.Theorem))
			}
		}
	}
}

// P7.2 to P7.4: proofs are taken in greater theories, with their Kids, and without axioms that they do not name.
func TestP72Kernel(t *testing.T) {
	without := 0
	for seed := range 300 {
		g := newGen(seed, small(), greater(), other())
		g.play(40)
		for i, r := range g.results {
			if r.Code != api.OK {
				continue
			}
			p, thy := r.Theorem.Proof(), r.Theorem.Theory()
			bigger, e := theory.Extend(thy, "Bigger", api.Theory{Types: []api.TypeDecl{{Name: "new"}}, Axioms: []api.Axiom{{Name: "new", Prop: of("?A.0:P")}}})
			x, e1 := checker.Check(thy, p)
			y, e2 := checker.Check(bigger, p)
			if e != api.OK || e1 != api.OK || e2 != api.OK || !checker.Same(x, y) || !checker.Same(x, sequentOf(r.Theorem)) {
				t.Fatal(seed, i, e, e1, e2)
			}
			for _, k := range p.Kids {
				if _, e := checker.Check(thy, k); e != api.OK {
					t.Fatal(seed, i, "a Kid", e)
				}
			}
			less := bigger
			names, _ := proof.Names(p)
			less.Axioms = slices.DeleteFunc(slices.Clone(bigger.Axioms), func(a api.Axiom) bool { return a.Name != "protect_def" && !slices.Contains(names, a.Name) })
			if len(less.Axioms) < len(bigger.Axioms) {
				without++
			}
			if z, e := checker.Check(less, p); e != api.OK || !checker.Same(x, z) || !slices.Equal(checker.Axioms(p), names) {
				t.Fatal(seed, i, "without axioms", e)
			}
		}
	}
	if without < 1000 {
		t.Error("hardly tried", without)
	}
}

// P1: no function panics, whatever it is given.
func TestP1Garbage(t *testing.T) {
	made := 0
	for seed := range 200 {
		g := newGen(seed, small(), api.Theory{}, greater(), api.Theory{Name: "T"})
		number := func() int { return []int{0, 1, 2, 3, -1, math.MaxInt, math.MinInt}[g.Intn(7)] }
		var script []Step
		for range 40 {
			s := g.step()
			s.Theory, s.Num = number(), number()
			if g.Intn(3) == 0 {
				s.Rule = g.Intn(22) - 1
			}
			if g.Intn(3) == 0 {
				s.Term, s.Name = g.wild(), "\xff"
			}
			if g.Intn(3) == 0 {
				s.From = []int{number(), number()}[:g.Intn(3)]
			}
			if g.Intn(5) == 0 {
				s.Inst = api.Inst{Types: []api.TypeBind{{}, {Name: "a", Index: number(), To: api.Type{Op: number()}}}, Terms: []api.TermBind{{Index: number(), To: g.wild()}}}
				s.TypeNames, s.TermNames = []string{"", "\xff"}, []string{"x", "y"}
			}
			script = append(script, s)
			g.results = append(g.results, Play(g.theories, script)[len(script)-1])
		}
		for i, r := range Play(g.theories, script) {
			if r.Code != g.results[i].Code || state(r.Theorem) != state(g.results[i].Theorem) {
				t.Fatal(seed, i)
			}
			if r.Code == api.OK {
				made++
				checkRight(t, r.Theorem)
			} else if r.Theorem != (Theorem{}) {
				t.Fatal(seed, i, r.Code)
			}
		}
	}
	if made < 300 {
		t.Error("hardly tried", made)
	}
}
