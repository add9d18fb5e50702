package sat

import (
	"slices"

	"triforium/api"
)

// Solve answers whether clauses can hold together.
func Solve(l []Clause, fuel int) (r Result, err api.Errno) {
	if e := Check(l); e != api.OK {
		return Result{}, e
	}
	if fuel < 0 || fuel > maxFuel {
		return Result{}, api.ErrRange
	}
	defer func() {
		if e, ok := recover().(api.Errno); ok {
			r, err = Result{}, e
		}
	}()
	s := newSolver(l, fuel)
	if slices.ContainsFunc(l, func(c Clause) bool { return len(c) == 0 }) {
		return Result{}, api.OK
	}
	if s.search() < 0 {
		return Result{Holds: true, Values: s.answer()}, api.OK
	}
	proof := needed(len(l), s.steps)
	if len(proof) > MaxSteps {
		return Result{}, api.ErrLarge
	}
	return Result{Proof: proof}, api.OK
}

// solver looks for values. It learns the clauses that its conflicts show.
type solver struct {
	given     int // clauses that were given
	clauses   []Clause
	steps     []Step // which make the clauses behind those
	watched   map[literal][]int
	values    [MaxAtoms + 1]literal // of each atom the literal that holds, 0 for none
	trail     []implied
	done      int // how many of the trail have been propagated
	weight    [MaxAtoms + 1]int
	greatest  int
	occurs    [MaxAtoms + 1]bool
	fuel      int
	conflicts int
}

// implied is a literal that holds, with the clause that implies it; -1 for a decision.
type implied struct {
	literal literal
	reason  int
}

const decision = -1

func newSolver(l []Clause, fuel int) *solver {
	s := &solver{given: len(l), watched: map[literal][]int{}, fuel: fuel}
	for _, c := range l {
		s.clauses = append(s.clauses, slices.Clone(c))
		for _, n := range c {
			a := atomOf(n)
			s.greatest = max(s.greatest, a)
			s.occurs[a] = true
			s.weight[a]++
		}
	}
	for i := range l {
		s.watch(i)
	}
	return s
}

// answer returns the values of all atoms.
func (s *solver) answer() []bool {
	if s.greatest == 0 {
		return nil
	}
	out := make([]bool, s.greatest+1)
	for a := range out {
		out[a] = s.values[a] > 0
	}
	return out
}

// watch watches the first two literals of a clause.
func (s *solver) watch(i int) {
	c := s.clauses[i]
	for _, n := range c[:min(2, len(c))] {
		s.watched[literal(n)] = append(s.watched[literal(n)], i)
	}
}

// learn watches a clause, all literals of which fail but for one: this one, and the one that failed last, so that none is missed when values are taken back.
func (s *solver) learn(i int) {
	since := map[int]int{}
	for at, x := range s.trail {
		since[x.literal.atom()] = at
	}
	late := func(n int) int {
		if !s.fails(n) {
			return len(s.trail)
		}
		return since[atomOf(n)]
	}
	slices.SortFunc(s.clauses[i], func(a, b int) int { return late(b) - late(a) })
	s.watch(i)
}

func (s *solver) holds(n int) bool { return s.values[atomOf(n)] == literal(n) }
func (s *solver) fails(n int) bool { return s.values[atomOf(n)] == literal(n).not() }

// assign makes a literal hold.
func (s *solver) assign(l literal, reason int) {
	s.values[l.atom()] = l
	s.trail = append(s.trail, implied{l, reason})
}

// undo takes back all values but the first ones.
func (s *solver) undo(to int) {
	for _, x := range s.trail[to:] {
		s.values[x.literal.atom()] = 0
	}
	s.trail = s.trail[:to]
	s.done = min(s.done, to)
}

// search returns the number of a clause that no values can make hold beside those that are there; -1, if it has found values for all atoms.
func (s *solver) search() int {
	start := len(s.trail)
	for {
		c := s.propagate()
		if c >= 0 {
			s.conflict(c)
			return s.explained(c, start)
		}
		l := s.choose()
		if l == 0 {
			return -1
		}
		c = s.tried(l)
		if c < 0 {
			return -1
		}
		if !slices.Contains(s.clauses[c], int(l.not())) {
			return s.explained(c, start)
		}
		// the clause implies the contrary now
		s.learn(c)
		s.assign(l.not(), c)
	}
}

// tried searches with a decision, which is taken back, if no values are found.
func (s *solver) tried(l literal) (clause int) {
	to := len(s.trail)
	defer func() {
		if clause >= 0 {
			s.undo(to)
		}
	}()
	s.assign(l, decision)
	return s.search()
}

// conflict counts a conflict, or leaves, if there is no fuel for it.
func (s *solver) conflict(c int) {
	if s.conflicts >= s.fuel {
		panic(api.ErrFuel)
	}
	s.conflicts++
	for _, n := range s.clauses[c] {
		s.weight[atomOf(n)] += 4
	}
}

// explained returns a clause that fails by the first values of the trail alone: what stands behind was implied.
func (s *solver) explained(c, start int) int {
	for i := len(s.trail) - 1; i >= start; i-- {
		x := s.trail[i]
		if x.reason == decision || !slices.Contains(s.clauses[c], int(x.literal.not())) {
			continue
		}
		c = s.resolve(x.reason, c, x.literal)
	}
	return c
}

// resolve makes the resolvent of a clause with a literal and one with its negation, and returns its number.
func (s *solver) resolve(with, without int, l literal) int {
	a, b := with, without
	if l < 0 {
		a, b = b, a
	}
	sorted := func(i int) Clause {
		c := slices.Clone(s.clauses[i])
		slices.SortFunc(c, func(x, y int) int { return atomOf(x) - atomOf(y) })
		return c
	}
	c, _ := resolvent(sorted(a), sorted(b), l.atom())
	s.steps = append(s.steps, Step{a, b, l.atom()})
	s.clauses = append(s.clauses, c)
	return len(s.clauses) - 1
}

// choose returns a literal of an atom without a value, 0 if there is none: the atom that stood most often in conflicts.
func (s *solver) choose() literal {
	best := 0
	for a := 1; a <= s.greatest; a++ {
		if s.occurs[a] && s.values[a] == 0 && (best == 0 || s.weight[a] > s.weight[best]) {
			best = a
		}
	}
	return literal(-best)
}

// propagate makes literals hold that clauses imply; it returns a clause that fails, -1 if there is none.
func (s *solver) propagate() int {
	if len(s.trail) == 0 {
		if c := s.units(); c >= 0 {
			return c
		}
	}
	for s.done < len(s.trail) {
		l := s.trail[s.done].literal
		s.done++
		if c := s.failed(l.not()); c >= 0 {
			return c
		}
	}
	return -1
}

// units makes the literals hold that stand alone in a clause.
func (s *solver) units() int {
	for i, c := range s.clauses {
		if len(c) != 1 || s.holds(c[0]) {
			continue
		}
		if s.fails(c[0]) {
			return i
		}
		s.assign(literal(c[0]), i)
	}
	return -1
}

// failed looks through the clauses that watch a literal that fails; it returns one that fails, -1 if there is none.
func (s *solver) failed(l literal) int {
	old := s.watched[l]
	var kept []int
	found := -1
clauses:
	for n, i := range old {
		c := s.clauses[i]
		if len(c) > 1 && c[0] == int(l) {
			c[0], c[1] = c[1], c[0]
		}
		if c[min(1, len(c)-1)] != int(l) {
			continue clauses // it was learned again, and watches others now
		}
		for k := 2; k < len(c); k++ {
			if !s.fails(c[k]) && !s.holds(c[0]) {
				c[1], c[k] = c[k], c[1]
				s.watched[literal(c[1])] = append(s.watched[literal(c[1])], i)
				continue clauses
			}
		}
		kept = append(kept, i)
		switch {
		case s.holds(c[0]):
		case s.fails(c[0]):
			kept = append(kept, old[n+1:]...)
			found = i
			break clauses
		default:
			s.assign(literal(c[0]), i)
		}
	}
	s.watched[l] = kept
	return found
}
