package resolve

import (
	"slices"

	"triforium/api"
	"triforium/kernel"
	"triforium/pattern"
	"triforium/term"
	"triforium/types"
	"triforium/unify"
)

// What the document says of resolvents, word by word.

// says is what a theorem states.
type says struct {
	hyps    []api.Term
	prop    api.Term
	oracles []string
}

func what(t kernel.Theorem) says { return says{t.Hyps(), t.Prop(), t.Oracles()} }

func equalSays(a, b says) bool {
	return slices.EqualFunc(a.hyps, b.hyps, term.Equal) && term.Equal(a.prop, b.prop) && slices.Equal(a.oracles, b.oracles)
}

// twoTheorems is the error of two theorems, which layer 6 has for them: theirs is another one where one does not state what follows from the other one.
func twoTheorems(rule, state kernel.Theorem) api.Errno {
	_, e := kernel.ImpElim(state, rule)
	if e == api.ErrFail {
		return api.OK
	}
	return e
}

// meetError is the error of a rule and a state, at a subgoal that there is.
func meetError(rule, state kernel.Theorem, at int) api.Errno {
	if e := twoTheorems(rule, state); e != api.OK {
		return e
	}
	goals, _ := term.Strip(state.Prop())
	if len(Split(goals[at]).Params) > 0 && len(term.Vars(api.Term{Kids: rule.Hyps()})) > 0 {
		return api.ErrFail
	}
	return api.OK
}

func union[T any](a, b []T, compare func(T, T) int) []T {
	l := slices.Concat(a, b)
	slices.SortFunc(l, compare)
	return slices.CompactFunc(l, func(x, y T) bool { return compare(x, y) == 0 })
}

// naiveRaise returns a rule above a state.
func naiveRaise(rule, state says) says {
	n := -1
	for _, t := range append(slices.Clone(state.hyps), state.prop) {
		n = max(n, term.MaxIndex(t))
	}
	out := says{oracles: rule.oracles, prop: term.Raise(rule.prop, n+1)}
	for _, h := range rule.hyps {
		out.hyps = append(out.hyps, term.Raise(h, n+1))
	}
	return out
}

// naiveLift replaces variables by ones applied to parameters.
func naiveLift(params []api.Term, t api.Term) api.Term {
	var i api.Inst
	for _, v := range term.Vars(t) {
		to := v
		for k := len(params) - 1; k >= 0; k-- {
			to.Type = types.Fun(params[k].Type, to.Type)
		}
		for k := range params {
			to = term.Apps(to, []api.Term{{Op: api.Bound, Num: len(params) - 1 - k}})
		}
		i.Terms = append(i.Terms, api.TermBind{Name: v.Name, Index: v.Num, To: to})
	}
	return term.Apply(i, t)
}

func imply(l []api.Term, t api.Term) api.Term {
	for i := len(l) - 1; i >= 0; i-- {
		t = term.Imp(l[i], t)
	}
	return t
}

type naiveAttempt struct {
	pairs [][2]api.Term
	news  []Subgoal
}

// naiveResolvents returns what is stated by the resolvents, at most so many.
func naiveResolvents(thy api.Theory, rule, state says, at, kind, depth, most int) []says {
	raised := naiveRaise(rule, state)
	goals, concl := term.Strip(state.prop)
	s := Split(goals[at])
	premises, c := term.Strip(raised.prop)
	for i := range premises {
		premises[i] = naiveLift(s.Params, premises[i])
	}
	c = naiveLift(s.Params, c)
	var l []naiveAttempt
	if kind == Rule {
		a := naiveAttempt{pairs: [][2]api.Term{{c, s.Concl}}}
		for _, p := range premises {
			a.news = append(a.news, Subgoal{s.Params, s.Hyps, p})
		}
		l = append(l, a)
	} else if len(premises) > 0 {
		for j := range s.Hyps {
			var rest []api.Term
			for k, h := range s.Hyps {
				if k != j {
					rest = append(rest, h)
				}
			}
			a := naiveAttempt{pairs: [][2]api.Term{{premises[0], s.Hyps[j]}}}
			if kind == Erule {
				a.pairs = [][2]api.Term{{c, s.Concl}, {premises[0], s.Hyps[j]}}
			}
			for _, p := range premises[1:] {
				a.news = append(a.news, Subgoal{s.Params, rest, p})
			}
			if kind == Drule {
				a.news = append(a.news, Subgoal{s.Params, append(slices.Clone(rest), c), s.Concl})
			}
			l = append(l, a)
		}
	}
	n := naiveState{thy: thy, rule: raised, state: state, goals: goals, concl: concl, at: at, sub: s, lifted: imply(premises, c), most: most}
	return n.all(l, depth)
}

func naiveAssumptions(thy api.Theory, state says, at, depth, most int) []says {
	goals, concl := term.Strip(state.prop)
	s := Split(goals[at])
	var l []naiveAttempt
	for _, h := range s.Hyps {
		l = append(l, naiveAttempt{pairs: [][2]api.Term{{h, s.Concl}}})
	}
	n := naiveState{thy: thy, state: state, goals: goals, concl: concl, at: at, sub: s, lifted: of(kinds, "A"), most: most}
	return n.all(l, depth)
}

type naiveState struct {
	thy         api.Theory
	rule, state says
	goals       []api.Term
	concl       api.Term
	at          int
	sub         Subgoal
	lifted      api.Term
	most        int
	out         []says
}

func closedBy(params []api.Term, t api.Term) api.Term {
	for i := len(params) - 1; i >= 0; i-- {
		t = api.Term{Op: api.Abs, Name: params[i].Name, Type: params[i].Type, Kids: []api.Term{t}}
	}
	return t
}

func (n *naiveState) all(l []naiveAttempt, depth int) []says {
	for _, a := range l {
		var pairs []pattern.Pair
		for _, p := range a.pairs {
			pairs = append(pairs, pattern.Pair{A: closedBy(n.sub.Params, p[0]), B: closedBy(n.sub.Params, p[1])})
		}
		us, _, e := unify.First(n.thy, pairs, depth, 1000)
		if e != api.OK {
			continue
		}
		goals := slices.Clone(n.goals[:n.at])
		for _, s := range a.news {
			goals = append(goals, Whole(Split(Whole(s))))
		}
		goals = append(goals, n.goals[n.at+1:]...)
		prop := imply(goals, n.concl)
		for _, u := range us {
			if len(n.out) == n.most {
				return n.out
			}
			if len(u.Flex) == 0 {
				n.add(u.Inst, prop)
			}
		}
	}
	return n.out
}

func fits2000(t api.Term) bool {
	if nodes, depth := term.Size(t); nodes > 2000 || depth > 100 {
		return false
	}
	for k := range term.Nodes(t) {
		if nodes, depth := types.Size(k.Type); nodes > 2000 || depth > 100 {
			return false
		}
	}
	return true
}

func naiveNormal(t api.Term) (api.Term, bool) {
	n, e := term.NormWithin(t, 1000, 9000, 300)
	return n, e == api.OK && fits2000(n)
}

// add adds the resolvent by an instantiation, if there is one.
func (n *naiveState) add(i api.Inst, prop api.Term) {
	now := func(l ...api.Term) []api.Term {
		var out []api.Term
		for _, t := range l {
			out = append(out, term.Apply(i, t))
		}
		return out
	}
	stateHyps, ruleHyps := now(n.state.hyps...), now(n.rule.hyps...)
	state, rule, result := now(n.state.prop), now(n.lifted), now(prop)
	for _, t := range slices.Concat(stateHyps, ruleHyps, state, rule, result) {
		if !fits2000(t) {
			return
		}
	}
	for _, t := range slices.Concat(state, rule) {
		if _, ok := naiveNormal(t); !ok {
			return
		}
	}
	normal, ok := naiveNormal(result[0])
	if !ok {
		return
	}
	hyps := union(stateHyps, ruleHyps, term.Compare)
	if term.Agree(append(slices.Clone(hyps), normal)) != api.OK || term.Agree(append(slices.Clone(stateHyps), state...)) != api.OK || term.Agree(slices.Concat(ruleHyps, rule, now(n.sub.Hyps...))) != api.OK {
		return
	}
	whole := api.Term{Kids: slices.Concat(n.state.hyps, n.rule.hyps, []api.Term{n.state.prop, n.lifted})}
	for _, b := range i.Types {
		for _, v := range term.TypeVariables(whole) {
			if v.Op == api.TVar && v.Name == b.Name && v.Index == b.Index && !types.HasSort(n.thy, b.To, v.Sort) {
				return
			}
		}
	}
	for _, b := range i.Terms {
		for _, v := range term.Vars(whole) {
			if t, e := term.Check(n.thy, b.To); v.Name == b.Name && v.Num == b.Index && (e != api.OK || !types.Equal(t, types.Apply(i.Types, v.Type))) {
				return
			}
		}
	}
	cmpText := func(a, b string) int {
		if a < b {
			return -1
		}
		if a > b {
			return 1
		}
		return 0
	}
	n.out = append(n.out, says{hyps, normal, union(n.state.oracles, n.rule.oracles, cmpText)})
}
