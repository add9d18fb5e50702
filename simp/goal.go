package simp

import (
	"slices"

	"triforium/api"
	"triforium/derive"
	"triforium/kernel"
	"triforium/resolve"
	"triforium/term"
)

// goal is a subgoal that is simplified.
type goal struct {
	*simplifier
	state  kernel.Theorem
	at     int
	whole  api.Term   // the subgoal
	params []api.Term // Frees
	hyps   []api.Term // with these
	concl  api.Term
	sub    resolve.Subgoal
	view   view
}

// newGoal returns a subgoal of a state, or the errors of Goal that are named ahead of those of the simplification.
func newGoal(s Set, state kernel.Theorem, at, depth, fuel int) (*goal, api.Errno) {
	if !state.Is() {
		return nil, kernel.ErrNone
	}
	base, book, e := opened(state.Theory())
	if e != api.OK {
		return nil, e
	}
	set, e := read(base, s)
	if e != api.OK {
		return nil, e
	}
	goals, _ := term.Strip(state.Prop())
	if at < 0 || at >= len(goals) {
		return nil, resolve.ErrSubgoal
	}
	if e := inRange(depth, fuel); e != api.OK {
		return nil, e
	}
	g := &goal{state: state, at: at, whole: goals[at], sub: resolve.Split(goals[at])}
	names := s.names([]kernel.Theorem{state})
	for _, p := range g.sub.Params {
		x := api.Term{Op: api.Free, Name: term.Variant("x", names), Type: p.Type}
		names = append(names, x.Name)
		g.params = append(g.params, x)
	}
	g.simplifier = newSimplifier(base, book, set, names, fuel)
	g.open()
	g.view = view{depth: depth}
	_, e = derive.Proved(func() bool {
		for _, h := range g.hyps {
			g.view.equations = append(g.view.equations, g.assumptionEquations(h)...)
		}
		return true
	})
	g.view.equations = append(g.view.equations, set.equations...)
	return g, e
}

// open puts the Frees in the place of the parameters.
func (g *goal) open() {
	with := func(t api.Term) api.Term {
		for _, x := range slices.Backward(g.params) {
			t = term.Put(t, x)
		}
		return t
	}
	for _, h := range g.sub.Hyps {
		g.hyps = append(g.hyps, with(h))
	}
	g.concl = with(g.sub.Concl)
}

// simplified returns that the conclusion is equal to what it becomes, with splits.
func (g *goal) simplified() derive.Equation {
	all := g.fuel.all
	e := g.simplify(g.concl, g.view)
	for range MaxSplit {
		if shapeOf(e.Right) == trivial || !isTruth(e.Right) {
			break
		}
		choice, ok := firstChoice(e.Right.Kids[1])
		if !ok {
			break
		}
		cases := splitting(g.Prover, g.book, e.Right.Kids[1], choice)
		e = derive.Joined(e, g.Applied(derive.Same(e.Right.Kids[0]), cases))
		*g.fuel = fuel{all: all}
		e = derive.Joined(e, g.simplify(e.Right, g.view))
	}
	return e
}

// replaced returns the state without the subgoal, whose conclusion was proved from its assumptions; or with what its conclusion is equal to.
func (g *goal) replaced(done kernel.Theorem, now *derive.Equation) kernel.Theorem {
	n := 0
	var news []api.Term
	if now != nil {
		n = 1
		body := now.Right
		for _, x := range g.params {
			body = term.Bind(x, body)
		}
		g.sub.Concl = body
		news = []api.Term{resolve.Whole(g.sub)}
		done = derive.Special(g.Assume(news[0]), g.params...)
		for _, h := range g.hyps {
			done = derive.Elim(done, g.Assume(h))
		}
		done = derive.Changed(derive.Turned(*now), done)
	}
	by := derive.Discharge(g.closed(g.whole, g.params, g.hyps, done), news...)
	return derive.Must(resolve.Replace(g.state, g.at, by, n))
}

// closed returns the subgoal whose conclusion was proved; parameters and assumptions may stand in any order.
func (g *goal) closed(t api.Term, params, hyps []api.Term, done kernel.Theorem) kernel.Theorem {
	if abs, ok := term.IsAll(t); ok {
		return derive.Generally(g.closed(abs.Kids[0], params[1:], hyps, done), params[0])
	}
	if _, rest, ok := term.IsImp(t); ok {
		return derive.Discharge(g.closed(rest, params, hyps[1:], done), hyps[0])
	}
	return done
}
