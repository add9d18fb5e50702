package resolve

import (
	"fmt"
	"math/rand"
	"slices"
	"testing"

	"triforium/api"
	"triforium/checker"
	"triforium/derive"
	"triforium/kernel"
	"triforium/term"
	"triforium/types"
)

// gen makes random rules and states.
type gen struct {
	*rand.Rand
	typed bool // there are Frees whose types have TVars
}

func (g *gen) pick(l ...string) string { return l[g.Intn(len(l))] }

const randomKinds = kinds + "; ?E: ?a>?a>P; ?u: ?a; ?v: ?a; ?o: ?b{c}; ?M: N>?a; ?D: N>N>P; ?H: N; ?H.1: N>P; ?H.2: P; ?H.3: N>N; ?H.4: N; ?H.5: P; $f: ?a; $g: ?b{c}"

// nat returns a term of the type nat within parameters.
func (g *gen) nat(params []string, depth int) string {
	switch n := g.Intn(9); {
	case n < 3 && len(params) > 0:
		return params[g.Intn(len(params))]
	case n == 3 && depth > 0:
		return "(s " + g.nat(params, depth-1) + ")"
	case n == 4:
		return g.pick("?x", "?y", "?x", "?H", "?H.4")
	case n == 5 && depth > 0:
		return "(?G " + g.nat(params, depth-1) + ")"
	case n == 6 && depth > 0 && g.Intn(3) == 0:
		return "((%k:N. " + g.nat(append(params, "k"), depth-1) + ") " + g.nat(params, 0) + ")"
	}
	return g.pick("z", "a", "b", "$n", "$m")
}

// atom returns a proposition within parameters.
func (g *gen) atom(params []string, depth int) string {
	if g.typed && g.Intn(3) == 0 {
		return g.pick("(e $f $f)", "(e $f ?u)", "(?E $f ?v)", "(o $g)", "((%k:?a. A) $f)")
	}
	switch g.Intn(12) {
	case 0:
		return g.pick("A", "B", "C")
	case 1:
		return g.pick("?P", "?Q", "?R", "?P", "?H.2", "?H.5", "(?H.1 "+g.nat(params, 0)+")", "(p (?H.3 "+g.nat(params, 0)+"))")
	case 2, 3:
		return "(p " + g.nat(params, depth) + ")"
	case 4:
		return "(q " + g.nat(params, depth) + ")"
	case 5:
		return "(r " + g.nat(params, depth) + " " + g.nat(params, depth) + ")"
	case 6:
		return "(?F " + g.nat(params, depth) + ")"
	case 7:
		if depth > 0 {
			return "(And " + g.atom(params, depth-1) + " " + g.atom(params, depth-1) + ")"
		}
	case 8:
		if depth > 0 {
			return g.pick("(All (%k:N. ", "(Ex (%k:N. ") + g.atom(append(params, "k"), depth-1) + "))"
		}
	case 9:
		return g.pick("(All ?F)", "(Ex ?F)", "(All p)", "(h ?G)", "(h s)", "(h (%k:N. s k))", "(All (%k:N. p k))")
	case 10:
		return g.pick("(?E ?u ?v)", "(e ?u ?v)", "(o ?o)", "(e ?u ?u)", "(?D "+g.nat(params, 0)+" "+g.nat(params, 0)+")")
	}
	return g.pick("A", "(p z)", "(p a)", "$A", "$B")
}

// subgoal returns a proposition with parameters and assumptions in any order.
func (g *gen) subgoal(params []string, depth int) string {
	if depth > 0 {
		switch g.Intn(4) {
		case 0:
			x := fmt.Sprint("x", len(params))
			return "(!!" + x + ":N. " + g.subgoal(append(slices.Clone(params), x), depth-1) + ")"
		case 1, 2:
			return "(" + g.subgoal(params, depth/3) + " ==> " + g.subgoal(params, depth-1) + ")"
		}
	}
	return g.atom(params, 1)
}

// the types of constants at which they are used
const atTypes = "; All: (N>P)>P; Ex: (N>P)>P; e: ?a>?a>P; o: ?b{c}>P"

func (g *gen) of(s string) api.Term { return of(randomKinds+atTypes, s) }

// theorem returns a theorem that an oracle states, with hypotheses.
func (g *gen) theorem(oracle string, prop api.Term, hyps int) kernel.Theorem {
	t, e := kernel.Oracle(little(), oracle, prop)
	if e != api.OK {
		panic(fmt.Sprint(e, brief(prop)))
	}
	for range hyps {
		h := g.of(g.subgoal(nil, 1))
		if g.Intn(4) > 0 {
			h = g.of(g.pick("A", "$A", "p $n", "r $n $m", "All p", "A ==> B", "!!x:N. p x"))
		}
		t = derive.Must(kernel.ImpElim(derive.Must(kernel.ImpIntro(h, t)), derive.Must(kernel.Assume(little(), h))))
	}
	return t
}

// instance returns a term with other terms for its variables, many of which are ground.
func (g *gen) instance(t api.Term, params []string) api.Term {
	var i api.Inst
	for _, v := range term.TypeVariables(t) {
		if v.Op == api.TVar && g.Intn(2) == 0 {
			i.Types = append(i.Types, api.TypeBind{Name: v.Name, Index: v.Index, To: typ("N")})
		}
	}
	for _, v := range term.Vars(t) {
		s := ""
		switch k := typeText(types.Apply(i.Types, v.Type)); k {
		case "nat":
			s = g.nat(params, 1)
		case "prop":
			s = g.subgoal(params, 1)
		case "fun(nat, prop)":
			s = "%k:N. " + g.atom(append(slices.Clone(params), "k"), 1)
		case "fun(nat, nat)":
			s = "%k:N. " + g.nat(append(slices.Clone(params), "k"), 1)
		}
		if s != "" && g.Intn(4) > 0 {
			r := &source{rest: s, kinds: map[string]api.Type{}}
			r.read(randomKinds + atTypes)
			i.Terms = append(i.Terms, api.TermBind{Name: v.Name, Index: v.Num, To: r.term(params)})
		}
	}
	return term.Apply(i, t)
}

// scene is a rule and a state that may meet.
type scene struct {
	rule, state kernel.Theorem
	at, kind    int
}

func (g *gen) scene() (scene, bool) {
	s := scene{kind: 1 + g.Intn(3)}
	var premises []api.Term
	for range g.Intn(4) {
		premises = append(premises, g.of(g.subgoal(nil, g.Intn(3))))
	}
	concl := g.of(g.atom(nil, 1))
	rule := imply(premises, concl)
	var params []string
	for i := range g.Intn(3) {
		params = append(params, fmt.Sprint("x", i))
	}
	var hyps []api.Term
	open := func(s string) api.Term {
		r := &source{rest: s, kinds: map[string]api.Type{}}
		r.read(randomKinds + atTypes)
		return r.term(params)
	}
	for range g.Intn(3) {
		hyps = append(hyps, open(g.subgoal(params, 1)))
	}
	if s.kind != Rule && len(premises) > 0 && g.Intn(4) > 0 {
		hyps = append(hyps, g.instance(premises[0], params))
	}
	b := open(g.atom(params, 1))
	if g.Intn(4) > 0 {
		b = g.instance(concl, params)
	}
	if len(hyps) > 0 && g.Intn(3) == 0 {
		b = hyps[0]
	}
	var frees []api.Term
	for _, x := range params {
		frees = append(frees, api.Term{Op: api.Free, Name: x, Type: typ("N")})
	}
	goal := Whole(Subgoal{frees, hyps, b})
	if g.Intn(4) == 0 && len(params) == 0 {
		goal = g.of(g.subgoal(nil, 4)) // perhaps not flat
	}
	var goals []api.Term
	for range g.Intn(3) {
		goals = append(goals, g.of(g.subgoal(nil, 2)))
	}
	s.at = g.Intn(len(goals) + 1)
	goals = slices.Insert(goals, s.at, goal)
	state := imply(goals, g.of(g.atom(nil, 1)))
	for _, t := range []api.Term{rule, state} {
		if _, e := term.Check(little(), t); e != api.OK {
			return scene{}, false
		}
	}
	few := g.Intn(4) / 2
	if rule.Op == 0 {
		return scene{}, false
	}
	ok := true
	func() {
		defer func() {
			if recover() != nil {
				ok = false
			}
		}()
		s.rule = g.theorem("orc", rule, few*g.Intn(3))
		s.state = g.theorem("orc2", state, few*g.Intn(3))
	}()
	return s, ok
}

func newGen(seed int) *gen { return &gen{rand.New(rand.NewSource(int64(seed))), seed%4 == 3} }

// taken reports whether the checker takes the proof of a theorem, and finds what it states.
func taken(t kernel.Theorem) bool {
	s, e := checker.Check(t.Theory(), t.Proof())
	return e == api.OK && checker.Same(s, checker.Sequent{Hyps: t.Hyps(), Prop: t.Prop(), Oracles: t.Oracles()})
}

// Resolvents state what the document says, word by word, and their proofs are taken.
func TestP121Random(t *testing.T) {
	thy := little()
	found := map[int]int{}
	codes := map[api.Errno]int{}
	for seed := range 2500 {
		g := newGen(seed)
		s, ok := g.scene()
		if !ok {
			continue
		}
		got, more, e := First(s.rule, s.at, s.state, s.kind, 4, 6)
		codes[e]++
		if want := meetError(s.rule, s.state, s.at); e != want {
			t.Fatal(seed, e, want, theoremText(s.rule), theoremText(s.state))
		}
		if e != api.OK {
			continue
		}
		want := naiveResolvents(thy, what(s.rule), what(s.state), s.at, s.kind, 4, 7)
		show := func() string {
			return fmt.Sprint(seed, " ", s.kind, " at ", s.at, "\n  ", theoremText(s.rule), "\n  ", theoremText(s.state))
		}
		if more != (len(want) > 6) || len(got) != min(6, len(want)) {
			t.Fatal(show(), len(got), len(want), more)
		}
		found[s.kind] += len(got)
		for i, x := range got {
			if !equalSays(what(x), want[i]) {
				t.Fatal(show(), "\n", theoremText(x), "\n", brief(want[i].prop))
			}
			if !taken(x) {
				t.Fatal(show(), "not taken")
			}
		}
	}
	if found[Rule] < 400 || found[Erule] < 200 || found[Drule] < 300 || codes[api.ErrFail] < 50 {
		t.Error(found, codes)
	}
}

// States that are solved by an assumption.
func TestP121RandomSolved(t *testing.T) {
	thy := little()
	found := 0
	for seed := range 2500 {
		g := newGen(seed)
		s, ok := g.scene()
		if !ok {
			continue
		}
		got, more, e := Solved(s.at, s.state, 4, 6)
		want := naiveAssumptions(thy, what(s.state), s.at, 4, 7)
		if e != api.OK || more != (len(want) > 6) || len(got) != min(6, len(want)) {
			t.Fatal(seed, e, theoremText(s.state), len(got), len(want), more)
		}
		found += len(got)
		for i, x := range got {
			if !equalSays(what(x), want[i]) || !taken(x) {
				t.Fatal(seed, theoremText(s.state), theoremText(x), "\n", brief(want[i].prop))
			}
		}
	}
	if found < 400 {
		t.Error(found)
	}
}

// Raised and lifted rules.
func TestP121RandomLift(t *testing.T) {
	lifted, codes := 0, map[api.Errno]int{}
	for seed := range 2500 {
		g := newGen(seed)
		s, ok := g.scene()
		if !ok {
			continue
		}
		rule, state := what(s.rule), what(s.state)
		raised := naiveRaise(rule, state)
		hyps := union(raised.hyps, nil, term.Compare)
		r, e := Raised(s.rule, s.state)
		if e != twoTheorems(s.rule, s.state) || r.Is() != (e == api.OK) {
			t.Fatal(seed, e, theoremText(s.rule), theoremText(s.state))
		}
		if e == api.OK && (!equalSays(what(r), says{hyps, raised.prop, rule.oracles}) || !taken(r)) {
			t.Fatal(seed, theoremText(s.rule), theoremText(s.state), theoremText(r))
		}
		goals, _ := term.Strip(state.prop)
		sub := Split(goals[s.at])
		premises, c := term.Strip(raised.prop)
		for i := range premises {
			premises[i] = Whole(Subgoal{sub.Params, sub.Hyps, naiveLift(sub.Params, premises[i])})
		}
		c = Whole(Subgoal{sub.Params, sub.Hyps, naiveLift(sub.Params, c)})
		want := says{hyps, imply(premises, c), rule.oracles}
		code := meetError(s.rule, s.state, s.at)
		if code == api.OK {
			code = term.Agree(append(slices.Clone(hyps), want.prop))
		}
		l, e := Lift(s.rule, s.at, s.state)
		codes[e]++
		if e != code || l.Is() != (e == api.OK) {
			t.Fatal(seed, e, code, theoremText(s.rule), "\n", theoremText(s.state))
		}
		if e != api.OK {
			continue
		}
		if !equalSays(what(l), want) || !taken(l) {
			t.Fatal(seed, theoremText(s.rule), "\n", theoremText(s.state), "\n", theoremText(l), "\n", brief(want.prop))
		}
		lifted++
	}
	if lifted < 1000 || codes[api.ErrFail] < 50 || codes[api.ErrType] < 100 {
		t.Error(lifted, codes)
	}
}

// Whole of Split is flat, with the same parts; of what is flat it is the term.
func TestP123Random(t *testing.T) {
	for seed := range 2500 {
		g := newGen(seed)
		x := g.of(g.subgoal(nil, 5))
		s := Split(x)
		w := Whole(s)
		again := Split(w)
		if !slices.EqualFunc(s.Params, again.Params, term.Equal) || !slices.EqualFunc(s.Hyps, again.Hyps, term.Equal) || !term.Equal(s.Concl, again.Concl) || !term.Equal(Whole(again), w) {
			t.Fatal(seed, brief(x), brief(w))
		}
		flat := true // no !! behind a ==>
		for k, met := x, false; ; {
			if abs, ok := term.IsAll(k); ok {
				flat = flat && !met
				k = abs.Kids[0]
			} else if _, b, ok := term.IsImp(k); ok {
				met = true
				k = b
			} else {
				break
			}
		}
		if flat != term.Equal(w, x) && len(s.Params) > 0 || flat && text(w) != text(x) {
			t.Fatal(seed, brief(x), brief(w))
		}
	}
}

// A subgoal without parameters and assumptions is solved by a theorem that states it.
func TestP124Random(t *testing.T) {
	for seed := range 1500 {
		g := newGen(seed)
		g.typed = false // their types are others in the raised theorem
		a := closedTerm(g.of(g.atom(nil, 2)))
		if len(term.Frees(a)) > 0 && slices.ContainsFunc(term.TypeVariables(a), func(v api.Type) bool { return v.Op == api.TFree }) {
			continue // constants with other types
		}
		state := g.theorem("orc", term.Imp(a, g.of(g.subgoal(nil, 2))), 0)
		fact := g.theorem("orc2", a, g.Intn(3))
		l, _, e := First(fact, 0, state, Rule, 2, 1)
		if _, f := term.Check(little(), a); f != api.OK {
			continue
		}
		goals, _ := term.Strip(state.Prop())
		if e != api.OK || len(l) != 1 {
			t.Fatal(seed, e, theoremText(state), theoremText(fact))
		}
		now, _ := term.Strip(l[0].Prop())
		if len(now) != len(goals)-1 {
			t.Fatal(seed, theoremText(state), theoremText(l[0]))
		}
	}
}

// closedTerm returns a term with Frees for its Vars, whose types have no schematic variables, as a rule that is raised has others than the state.
func closedTerm(t api.Term) api.Term {
	if t.Op == api.Var {
		for _, v := range types.Variables(t.Type) {
			t.Type = types.Apply([]api.TypeBind{{Name: v.Name, Index: v.Index, To: api.Type{Op: api.TFree, Name: v.Name, Sort: v.Sort}}}, t.Type)
		}
	}
	if t.Op == api.Var {
		t.Name = fmt.Sprint("v", t.Name, "_", t.Num)
		t.Op, t.Num = api.Free, 0
	}
	t.Kids = slices.Clone(t.Kids)
	for i := range t.Kids {
		t.Kids[i] = closedTerm(t.Kids[i])
	}
	return t
}

// A sequence that is stopped has yielded the first ones, and yields them again.
func TestP125Random(t *testing.T) {
	several := 0
	for seed := range 200 {
		g := newGen(seed)
		s, ok := g.scene()
		if !ok {
			continue
		}
		l, more, e := First(s.rule, s.at, s.state, s.kind, 4, 5)
		seq := Compose(s.rule, s.at, s.state, s.kind, 4)
		solved, moreSolved, _ := Solved(s.at, s.state, 4, 5)
		other := Assumption(s.at, s.state, 4)
		check := func(l []kernel.Theorem, more bool, seq func(func(kernel.Theorem) bool)) {
			for n := range 7 {
				i := 0
				for x := range seq {
					if i == n {
						break
					}
					if i < 5 && !equalSays(what(x), what(l[i])) {
						t.Fatal(seed, n, i)
					}
					i++
				}
				if i != min(n, len(l)) && !(more && i == n) {
					t.Fatal(seed, n, i, len(l), e)
				}
			}
		}
		check(l, more, seq)
		check(solved, moreSolved, other)
		for n := range len(l) {
			some, left, _ := First(s.rule, s.at, s.state, s.kind, 4, n)
			if len(some) != n || !left {
				t.Fatal(seed)
			}
		}
		if len(l) > 1 {
			several++
		}
	}
	if several < 5 {
		t.Error(several)
	}
}
