package classical

import (
	"iter"

	"triforium/api"
	"triforium/kernel"
	"triforium/resolve"
	"triforium/term"
)

const (
	unifyDepth = 8
	choices    = 10 // states of an unsafe rule
)

// goal is a state with the number of its subgoals.
type goal struct {
	state kernel.Theorem
	total int
}

func subgoals(state kernel.Theorem) int {
	l, _ := term.Strip(state.Prop())
	return len(l)
}

// search counts its tries.
type search struct {
	safes, unsafes []Rule
	tries, steps   int
}

// newSearch returns a search on a state, or the errors of Search that are named ahead of it.
func newSearch(l []Rule, state kernel.Theorem, at, depth, steps int) (*search, api.Errno) {
	if !state.Is() {
		return nil, kernel.ErrNone
	}
	rules, e := rulesOn(state.Base(), l)
	if e != api.OK {
		return nil, e
	}
	if at < 0 || at >= subgoals(state) {
		return nil, resolve.ErrSubgoal
	}
	if steps < 0 || steps > MaxSteps || depth < 0 || depth > MaxDepth {
		return nil, api.ErrRange
	}
	s := &search{steps: steps}
	for _, r := range rules {
		if r.Safe {
			s.safes = append(s.safes, r)
		} else {
			s.unsafes = append(s.unsafes, r)
		}
	}
	return s, api.OK
}

// try counts a try, or leaves, if there are no steps for it.
func (s *search) try() {
	if s.tries >= s.steps {
		panic(api.ErrFuel)
	}
	s.tries++
}

// first returns the first state of a try, if it has one.
func (s *search) first(states func() ([]kernel.Theorem, bool, api.Errno)) (goal, bool) {
	s.try()
	l, _, e := states()
	if e != api.OK || len(l) == 0 {
		return goal{}, false
	}
	return goal{l[0], subgoals(l[0])}, true
}

// safeStep makes a safe step on a subgoal, if there is one.
func (s *search) safeStep(g goal, at int) (goal, bool) {
	now, ok := s.first(func() ([]kernel.Theorem, bool, api.Errno) { return resolve.Solved(at, g.state, unifyDepth, 1) })
	if ok {
		return now, true
	}
	for _, r := range s.safes {
		now, ok := s.first(func() ([]kernel.Theorem, bool, api.Errno) {
			return resolve.First(r.Theorem, at, g.state, kind(r.Kind).resolution(), unifyDepth, 1)
		})
		if ok {
			return now, true
		}
	}
	return goal{}, false
}

// safe makes safe steps on a subgoal, and on those that come from it; it returns how many were made.
func (s *search) safe(g goal, at int) (goal, int) {
	made := 0
	behind := g.total - at - 1 // the subgoals behind the focus stay
	for i := at; i < g.total-behind; {
		now, ok := s.safeStep(g, i)
		if !ok {
			i++
			continue
		}
		g = now
		made++
	}
	return g, made
}

// solve solves a subgoal to a depth; false, if it fails.
func (s *search) solve(g goal, at, depth int) (goal, bool) {
	behind := g.total - at - 1
	g, _ = s.safe(g, at)
	for g.total-behind > at {
		now, ok := s.unsafe(g, at, depth)
		if !ok {
			return goal{}, false
		}
		g = now
	}
	return g, true
}

// alternatives yields the states of unsafe steps on a subgoal, in order.
func (s *search) alternatives(g goal, at int) iter.Seq[goal] {
	return func(yield func(goal) bool) {
		for _, r := range s.unsafes {
			s.try()
			l, _, _ := resolve.First(r.Theorem, at, g.state, kind(r.Kind).resolution(), unifyDepth, choices)
			for _, t := range l {
				if !yield(goal{t, subgoals(t)}) {
					return
				}
			}
		}
	}
}

// unsafe solves a subgoal by an unsafe step: the first one whose new subgoals are solved.
func (s *search) unsafe(g goal, at, depth int) (goal, bool) {
	if depth == 0 {
		return goal{}, false
	}
	behind := g.total - at - 1
	var found goal
	done := false
next:
	for now := range s.alternatives(g, at) {
		for now.total-behind > at {
			further, ok := s.solve(now, at, depth-1)
			if !ok {
				continue next
			}
			now = further
		}
		found, done = now, true
		break next
	}
	return found, done
}
