package tableau

import (
	"iter"
	"maps"
	"slices"

	"triforium/api"
	"triforium/kernel"
	"triforium/term"
	"triforium/types"
)

const (
	fewGammas = 2      // so many instances by Frees and constants are looked for thoroughly
	fewWork   = 400000 // nodes that are tried for them
	moreWork  = 30000  // nodes that are tried for more of them, and for other terms
)

// outOfWork is what a search leaves with when its work is done without an answer.
type outOfWork struct{}

// node is a node of a tableau whose formulas have numbers of their own, as those that are not needed are left out at last.
type node struct {
	kind, at, other int
	term            api.Term
	adds            [][]int // of each kid the numbers of the formulas that it puts on the branch
	kids            []*node
}

// closed is a tableau that closes a branch, with the numbers of the formulas that it uses.
type closed struct {
	node *node
	used map[int]bool
}

// entry is a formula of a branch.
type entry struct {
	formula api.Term
	number  int
	kind    int
	parts   []api.Term
}

// branch is a branch with what is still to be done on it: indices of formulas by their kinds.
type branch struct {
	forms         []entry
	single, split []int // of the kinds with one kid, and with two
	gammas        []int
	left          int // nodes of the kind Gamma that may still be made
}

// searcher looks for a tableau.
type searcher struct {
	base   kernel.Base
	names  []string // of Frees
	next   int      // the next number of a formula
	work   *int     // nodes that may still be tried
	simple bool     // instances are by Frees and constants alone
	cut    bool     // whether a branch had formulas of which there may be more instances
}

// Search looks for a closed tableau: at most so many instances for all on a branch, and so many nodes.
func Search(thy api.Theory, l []api.Term, gammas, nodes int) (Tree, api.Errno) {
	base, _, e := formulas(thy, l)
	if e != api.OK {
		return Tree{}, e
	}
	if gammas < 0 || gammas > MaxGamma || nodes < 0 || nodes > MaxNodes {
		return Tree{}, api.ErrRange
	}
	few, more := fewWork, moreWork
	for n := range min(gammas, fewGammas) + 1 {
		t, ok, cut := searched(base, l, n, &few, true)
		if ok {
			return within(t, nodes)
		}
		if !cut {
			return Tree{}, api.ErrFail
		}
	}
	for n := range gammas + 1 {
		if t, ok, _ := searched(base, l, n, &more, false); ok {
			return within(t, nodes)
		}
	}
	return Tree{}, api.ErrFail
}

// within returns a tableau, if it has not too many nodes.
func within(t Tree, nodes int) (Tree, api.Errno) {
	if Size(t) > nodes {
		return Tree{}, api.ErrFail
	}
	return t, api.OK
}

// searched looks for a tableau with at most so many nodes of the kind Gamma on each branch; if it finds none, it reports whether there may be one with more.
func searched(base kernel.Base, l []api.Term, gammas int, work *int, simple bool) (t Tree, ok, cut bool) {
	defer func() {
		if r := recover(); r != nil { // outOfWork
			t, ok, cut = Tree{}, false, true
		}
	}()
	s := &searcher{base: base, work: work, simple: simple}
	for _, x := range term.Frees(api.Term{Kids: l}) {
		s.names = append(s.names, x.Name)
	}
	b := branch{left: gammas}
	var numbers []int
	for _, f := range l {
		b, _ = s.with(b, f)
		numbers = append(numbers, s.next-1)
	}
	for i := range l {
		if c, ok := contradiction(branch{forms: b.forms[:i+1]}, 1); ok {
			return placed(c.node, numbers), true, false
		}
	}
	c, ok := s.close(b, 0)
	if !ok {
		return Tree{}, false, s.cut
	}
	return placed(c.node, numbers), true, false
}

// placed returns a node as a Tree on a branch whose formulas have some numbers.
func placed(n *node, numbers []int) Tree {
	t := Tree{Kind: n.kind, At: slices.Index(numbers, n.at), Term: term.Copy(n.term)}
	if n.kind == Close {
		t.Other = slices.Index(numbers, n.other)
	}
	for i, k := range n.kids {
		t.Kids = append(t.Kids, placed(k, slices.Concat(numbers, n.adds[i])))
	}
	return t
}

// with returns a branch with a further formula; false, if this is too large, or there are too many.
func (s *searcher) with(b branch, f api.Term) (branch, bool) {
	if !fits(f) || len(b.forms) >= MaxForms {
		return branch{}, false
	}
	e := entry{formula: f, number: s.next}
	s.next++
	e.kind, e.parts = kindOf(f)
	add := func(l []int) []int { return append(slices.Clone(l), len(b.forms)) }
	switch e.kind {
	case Alpha, Twice, Delta:
		b.single = add(b.single)
	case Beta:
		b.split = add(b.split)
	case Gamma:
		b.gammas = add(b.gammas)
	}
	b.forms = append(b.forms[:len(b.forms):len(b.forms)], e)
	return b, true
}

// contradiction returns a node that closes a branch by one of its last formulas.
func contradiction(b branch, last int) (closed, bool) {
	for i := len(b.forms) - last; i < len(b.forms); i++ {
		f := b.forms[i]
		for _, g := range b.forms[:i+1] {
			if contradict(f.formula, g.formula, f.number == g.number) {
				n := &node{kind: Close, at: f.number, other: g.number}
				return closed{n, map[int]bool{f.number: true, g.number: true}}, true
			}
		}
	}
	return closed{}, false
}

// has reports whether a branch has a formula.
func (b branch) has(f api.Term) bool {
	return slices.ContainsFunc(b.forms, func(e entry) bool { return term.Equal(e.formula, f) })
}

// spend counts work, or leaves, if all is done.
func (s *searcher) spend() {
	if *s.work--; *s.work < 0 {
		panic(outOfWork{})
	}
}

// close closes a branch, the last formulas of which are new.
func (s *searcher) close(b branch, last int) (closed, bool) {
	s.spend()
	if c, ok := contradiction(b, last); ok {
		return c, true
	}
	switch {
	case len(b.single) > 0:
		at := b.single[0]
		b.single = b.single[1:]
		return s.single(b, b.forms[at])
	case len(b.split) > 0:
		at := b.split[0]
		b.split = b.split[1:]
		return s.split(b, b.forms[at])
	}
	return s.instances(b)
}

// single closes a branch by a node of a formula that has one kid.
func (s *searcher) single(b branch, e entry) (closed, bool) {
	if e.kind == Delta {
		x := s.fresh(e.parts[0].Type)
		return s.byInstance(b, e, x)
	}
	if !slices.ContainsFunc(e.parts, func(f api.Term) bool { return !b.has(f) }) {
		return s.close(b, 0)
	}
	return s.extend(b, e, api.Term{}, e.parts)
}

// fresh returns a Free that stands nowhere.
func (s *searcher) fresh(t api.Type) api.Term {
	name := term.Variant("x", s.names)
	s.names = append(s.names, name)
	return api.Term{Op: api.Free, Name: name, Type: t}
}

// byInstance closes a branch by the instance of a formula by a term.
func (s *searcher) byInstance(b branch, e entry, a api.Term) (closed, bool) {
	s.spend()
	i, err := term.Norm(term.Put(e.parts[0].Kids[0], a), normFuel)
	if err != api.OK {
		return s.without(b, e)
	}
	if e.kind == Gamma && b.has(i) {
		return closed{}, false
	}
	return s.extend(b, e, a, []api.Term{i})
}

// without goes on without a node, as what it puts on the branch is too large; but for an instance, in the place of which there may be another one.
func (s *searcher) without(b branch, e entry) (closed, bool) {
	if e.kind == Gamma {
		return closed{}, false
	}
	return s.close(b, 0)
}

// extend closes a branch by a node that puts formulas at its end; without the node, if they are not used.
func (s *searcher) extend(b branch, e entry, a api.Term, more []api.Term) (closed, bool) {
	var numbers []int
	longer := b
	for _, f := range more {
		next, ok := s.with(longer, f)
		if !ok {
			return s.without(b, e)
		}
		longer = next
		numbers = append(numbers, s.next-1)
	}
	c, ok := s.close(longer, len(more))
	if !ok || !uses(c, numbers) {
		return c, ok
	}
	used := maps.Clone(c.used)
	for _, n := range numbers {
		delete(used, n)
	}
	used[e.number] = true
	return closed{&node{kind: e.kind, at: e.number, term: a, adds: [][]int{numbers}, kids: []*node{c.node}}, used}, true
}

// uses reports whether a tableau uses one of some formulas.
func uses(c closed, numbers []int) bool {
	return slices.ContainsFunc(numbers, func(n int) bool { return c.used[n] })
}

// split closes a branch by a node of a formula that has two kids, unless one of these needs no part of it.
func (s *searcher) split(b branch, e entry) (closed, bool) {
	if b.has(e.parts[0]) || b.has(e.parts[1]) {
		return s.close(b, 0)
	}
	n := &node{kind: Beta, at: e.number}
	used := map[int]bool{e.number: true}
	for _, f := range e.parts {
		next, ok := s.with(b, f)
		if !ok {
			return s.without(b, e)
		}
		number := s.next - 1
		c, ok := s.close(next, 1)
		if !ok || !c.used[number] {
			return c, ok
		}
		n.adds, n.kids = append(n.adds, []int{number}), append(n.kids, c.node)
		maps.Copy(used, c.used)
		delete(used, number)
	}
	return closed{n, used}, true
}

// instances closes a branch by an instance of a formula that holds for all.
func (s *searcher) instances(b branch) (closed, bool) {
	s.cut = s.cut || len(b.gammas) > 0
	if b.left == 0 {
		return closed{}, false
	}
	b.left--
next:
	for at, a := range s.candidates(b) {
		c, ok := s.byInstance(b, b.forms[at], a)
		if !ok {
			continue next
		}
		return c, true
	}
	return closed{}, false
}

// candidates yields the formulas that hold for all, each one with terms that may stand for its variable.
func (s *searcher) candidates(b branch) iter.Seq2[int, api.Term] {
	return func(yield func(int, api.Term) bool) {
		all := s.terms(b)
		for _, at := range b.gammas {
			k := b.forms[at].parts[0].Type
			some := false
			for _, c := range all {
				if !types.Equal(c.typ, k) {
					continue
				}
				some = true
				if !yield(at, c.term) {
					return
				}
			}
			if !some && !yield(at, s.fresh(k)) {
				return
			}
		}
	}
}

// typed is a term with its type.
type typed struct {
	term api.Term
	typ  api.Type
}

// terms returns the terms that stand on a branch, each once: Frees and constants, and, if they are wanted, other closed ones behind these.
func (s *searcher) terms(b branch) []typed {
	var l, more []typed
	met := func(l []typed, t api.Term) bool {
		return slices.ContainsFunc(l, func(c typed) bool { return term.Equal(c.term, t) })
	}
	for _, e := range b.forms {
		for n := range term.Nodes(e.formula) {
			switch {
			case n.Op == api.Free || n.Op == api.Const:
				if !met(l, n) {
					l = append(l, typed{n, n.Type})
				}
			case s.simple || n.Op == api.Bound || !term.Closed(n) || met(more, n):
			default:
				if k, err := term.TypeOf(n); err == api.OK {
					more = append(more, typed{n, k})
				}
			}
		}
	}
	return append(l, more...)
}
