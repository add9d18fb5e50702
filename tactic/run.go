package tactic

import (
	"iter"

	"triforium/api"
	"triforium/derive"
	"triforium/kernel"
	"triforium/resolve"
	"triforium/term"
)

const (
	unifyDepth = 8
	maxStates  = 1000 // of resolution

	maxPropNodes = 2000
	maxPropNest  = 100
	maxHyps      = 100
)

// outOfFuel is what a run leaves with when its steps are used up.
type outOfFuel struct{}

// runner counts the steps of a run.
type runner struct {
	machine
	steps int
}

// place is a state with a focus: so many subgoals from one on; total is the number of all subgoals.
type place struct {
	state       kernel.Theorem
	total       int
	from, count int
}

// places is a sequence of states.
type places = iter.Seq[place]

// start returns a state with all subgoals in focus.
func (r *runner) start(state kernel.Theorem) place {
	goals, _ := term.Strip(state.Prop())
	return place{state, len(goals), 0, len(goals)}
}

// behind returns a state that came from a place, with the focus that it has: this has as many subgoals more as the state.
func (p place) behind(state kernel.Theorem, total int) place {
	return place{state, total, p.from, p.count + total - p.total}
}

// apply yields the states that an expression makes of a state.
func (r *runner) apply(e Expr, p place) places {
	kinds := [lastKind + 1]func(Expr, place) places{
		Pass: r.pass, Fail: r.fail, Then: r.then, Or: r.or, Else: r.otherwise, Try: r.try, Repeat: r.repeat, Each: r.each, First: r.first, Solve: r.solve,
		Rule: r.rule, Erule: r.erule, Drule: r.drule, Assume: r.assume, Rotate: r.rotate, Protect: r.protect, Unfold: r.unfold, Cut: r.cut,
	}
	return kinds[e.Kind](e, p)
}

// step counts a step, or leaves, if there is no fuel for it.
func (r *runner) step() {
	if r.steps >= r.fuel {
		panic(outOfFuel{})
	}
	r.steps++
}

// basic yields the states of a basic tactic at a subgoal, but those that are too large.
func (r *runner) basic(e Expr, p place, states func(at int) iter.Seq[kernel.Theorem]) places {
	return func(yield func(place) bool) {
		r.step()
		if e.At >= p.count {
			return
		}
		for t := range states(p.from + e.At) {
			total, ok := permitted(t)
			if ok && !yield(p.behind(t, total)) {
				return
			}
		}
	}
}

// permitted returns the number of subgoals of a state; false, if the state is too large.
func permitted(t kernel.Theorem) (int, bool) {
	prop := t.Prop()
	if nodes, depth := term.Size(prop); nodes > maxPropNodes || depth > maxPropNest {
		return 0, false
	}
	goals, _ := term.Strip(prop)
	return len(goals), len(goals) <= MaxGoals && len(t.Hyps()) <= maxHyps
}

// atMost yields the first elements of a sequence.
func atMost(n int, seq iter.Seq[kernel.Theorem]) iter.Seq[kernel.Theorem] {
	return func(yield func(kernel.Theorem) bool) {
		left := n
		for t := range seq {
			if !yield(t) {
				return
			}
			if left--; left == 0 {
				return
			}
		}
	}
}

// one yields a theorem, if there is no error.
func one(f func() (kernel.Theorem, api.Errno)) iter.Seq[kernel.Theorem] {
	return func(yield func(kernel.Theorem) bool) {
		if t, e := f(); e == api.OK {
			yield(t)
		}
	}
}

func (r *runner) rule(e Expr, p place) places  { return r.resolved(e, p, resolve.Rule) }
func (r *runner) erule(e Expr, p place) places { return r.resolved(e, p, resolve.Erule) }
func (r *runner) drule(e Expr, p place) places { return r.resolved(e, p, resolve.Drule) }

func (r *runner) resolved(e Expr, p place, kind int) places {
	return r.basic(e, p, func(at int) iter.Seq[kernel.Theorem] {
		return atMost(maxStates, resolve.Compose(r.rules[e.Num], at, p.state, kind, unifyDepth))
	})
}

func (r *runner) assume(e Expr, p place) places {
	return r.basic(e, p, func(at int) iter.Seq[kernel.Theorem] {
		return atMost(maxStates, resolve.Assumption(at, p.state, unifyDepth))
	})
}

func (r *runner) rotate(e Expr, p place) places {
	return r.basic(e, p, func(at int) iter.Seq[kernel.Theorem] {
		return one(func() (kernel.Theorem, api.Errno) { return rotated(p.state, at, p.from+p.count-1) })
	})
}

// replaced yields the state in which new subgoals stand in the place of the subgoal A of an expression: a function proves N1 ==> .. ==> Nn ==> A.
func (r *runner) replaced(e Expr, p place, n int, prove func(a api.Term) kernel.Theorem) places {
	return r.basic(e, p, func(at int) iter.Seq[kernel.Theorem] {
		return one(func() (kernel.Theorem, api.Errno) {
			goals, _ := term.Strip(p.state.Prop())
			by, err := derive.Proved(func() kernel.Theorem { return prove(goals[at]) })
			if err != api.OK {
				return kernel.Theorem{}, err
			}
			return resolve.Replace(p.state, at, by, n)
		})
	})
}

func (r *runner) protect(e Expr, p place) places {
	return r.replaced(e, p, 1, func(a api.Term) kernel.Theorem {
		if b, ok := term.IsProtect(a); ok {
			return backward(protection(r.base, b), b, a)
		}
		return forward(protection(r.base, a), a, term.Protect(a))
	})
}

func (r *runner) unfold(e Expr, p place) places {
	return r.replaced(e, p, 1, func(a api.Term) kernel.Theorem { return r.unfolding(r.rules[e.Num], a) })
}

func (r *runner) cut(e Expr, p place) places {
	return r.replaced(e, p, 2, func(a api.Term) kernel.Theorem {
		// from Prop and Prop ==> A
		both := term.Imp(e.Prop, a)
		fact := derive.Must(r.base.Assume(e.Prop))
		t := derive.Must(kernel.ImpElim(derive.Must(r.base.Assume(both)), fact))
		return derive.Must(kernel.ImpIntro(e.Prop, derive.Must(kernel.ImpIntro(both, t))))
	})
}

// The tacticals.

func (r *runner) pass(_ Expr, p place) places {
	return func(yield func(place) bool) { yield(p) }
}

func (r *runner) fail(Expr, place) places {
	return func(func(place) bool) {}
}

func (r *runner) then(e Expr, p place) places {
	return func(yield func(place) bool) {
		for q := range r.apply(e.Kids[0], p) {
			for last := range r.apply(e.Kids[1], q) {
				if !yield(last) {
					return
				}
			}
		}
	}
}

func (r *runner) or(e Expr, p place) places {
	return func(yield func(place) bool) {
		for _, k := range e.Kids {
			for q := range r.apply(k, p) {
				if !yield(q) {
					return
				}
			}
		}
	}
}

func (r *runner) otherwise(e Expr, p place) places {
	return r.unless(r.apply(e.Kids[0], p), func() places { return r.apply(e.Kids[1], p) })
}

func (r *runner) try(e Expr, p place) places {
	return r.unless(r.apply(e.Kids[0], p), func() places { return r.pass(e, p) })
}

// unless yields the elements of a sequence; if it has none, those of another one.
func (r *runner) unless(first places, second func() places) places {
	return func(yield func(place) bool) {
		some := false
		for q := range first {
			some = true
			if !yield(q) {
				return
			}
		}
		if some {
			return
		}
		for q := range second() {
			if !yield(q) {
				return
			}
		}
	}
}

func (r *runner) repeat(e Expr, p place) places {
	again := func(yield func(place) bool) {
		for q := range r.apply(e.Kids[0], p) {
			for last := range r.repeat(e, q) {
				if !yield(last) {
					return
				}
			}
		}
	}
	return func(yield func(place) bool) {
		r.step()
		for q := range r.unless(again, func() places { return r.pass(e, p) }) {
			if !yield(q) {
				return
			}
		}
	}
}

func (r *runner) each(e Expr, p place) places {
	return r.eachFrom(e, p, p.from+p.count-1)
}

// eachFrom applies an expression to the subgoals of the focus from one on, up to the first one.
func (r *runner) eachFrom(e Expr, p place, at int) places {
	if at < p.from {
		return r.pass(e, p)
	}
	return func(yield func(place) bool) {
		for q := range r.apply(e.Kids[0], place{p.state, p.total, at, 1}) {
			for last := range r.eachFrom(e, p.behind(q.state, q.total), at-1) {
				if !yield(last) {
					return
				}
			}
		}
	}
}

func (r *runner) first(e Expr, p place) places {
	return func(yield func(place) bool) {
		for q := range r.apply(e.Kids[0], p) {
			yield(q)
			break
		}
	}
}

func (r *runner) solve(e Expr, p place) places {
	return func(yield func(place) bool) {
		for q := range r.apply(e.Kids[0], p) {
			if q.count < p.count && !yield(q) {
				return
			}
		}
	}
}
