package grammar

import (
	"iter"
	"slices"
)

// span is some tokens in a row.
type span struct {
	from, to int
}

// piece is the items of a production from one on, over a span.
type piece struct {
	prod, dot int
	over      span
}

// forest has what is needed to find the trees, in their order, without a way that leads to none.
type forest struct {
	*chart
	ends  map[place][]int         // where the trees of a symbol end that begin at a token, ascending
	prods map[place]map[int][]int // the productions of these trees, by their ends, ascending
	known map[piece]bool          // whether the items match
	ended map[int]bool            // productions below which nodes over the same tokens end, whatever stands above
}

func newForest(c *chart) *forest {
	f := &forest{chart: c, ends: map[place][]int{}, prods: map[place]map[int][]int{}, known: map[piece]bool{}}
	for to, s := range c.sets {
		for _, x := range s.list {
			if x.dot == len(c.g[x.prod].Items) {
				f.add(x, to)
			}
		}
	}
	for _, m := range f.prods {
		for _, l := range m {
			slices.Sort(l)
		}
	}
	f.ended = fixpoint(map[int]bool{}, f.endMore)
	return f
}

// endMore adds the productions to those that end whose part, if they have just one, has such productions alone.
func (f *forest) endMore(ended map[int]bool) (map[int]bool, bool) {
	changed := false
	for p := range f.g {
		if !ended[p] && (!f.isUnit(p) || f.allWithin(f.g[p].Items[0], ended)) {
			ended[p] = true
			changed = true
		}
	}
	return ended, changed
}

// allWithin reports whether all productions of a Symbol are among some.
func (f *forest) allWithin(x Item, some map[int]bool) bool {
	l, ok := f.by[x.Text]
	if !ok {
		return true
	}
	for p := range l(x.Prio) {
		if !some[p] {
			return false
		}
	}
	return true
}

// add adds a production that matches.
func (f *forest) add(x state, to int) {
	k := place{f.g[x.prod].Left, x.from}
	if f.prods[k] == nil {
		f.prods[k] = map[int][]int{}
	}
	if f.prods[k][to] == nil {
		f.ends[k] = append(f.ends[k], to)
	}
	f.prods[k][to] = append(f.prods[k][to], x.prod)
}

// chain is the productions of nodes that are over the same tokens, each one below the next.
type chain struct {
	prod  int
	above *chain
}

func (c *chain) has(prod int) bool {
	for ; c != nil; c = c.above {
		if c.prod == prod {
			return true
		}
	}
	return false
}

// all yields all trees over all tokens, in order.
func (f *forest) all() iter.Seq[Tree] {
	return f.trees(Item{Symbol, f.symbol, f.prio}, span{0, len(f.tokens)}, nil)
}

// over yields the productions that match the tokens of a span as trees of a Symbol.
func (f *forest) over(x Item, s span) iter.Seq[int] {
	return func(yield func(int) bool) {
		for _, p := range f.prods[place{x.Text, s.from}][s.to] {
			if f.g[p].Prio >= x.Prio && !yield(p) {
				return
			}
		}
	}
}

// trees yields the trees of a Symbol over a span, in order, below nodes over the same tokens.
// They share memory.
func (f *forest) trees(x Item, s span, above *chain) iter.Seq[Tree] {
	return func(yield func(Tree) bool) {
		for p := range f.over(x, s) {
			if above != nil && !f.ended[p] && !f.ending(p, s, above) {
				continue
			}
			ok := f.kids(piece{p, 0, s}, &chain{p, above}, nil, func(kids []Tree) bool {
				return yield(Tree{Prod: p, Kids: slices.Clone(kids)})
			})
			if !ok {
				return
			}
		}
	}
}

// isUnit reports whether the items of a production are one Symbol: only then a node over the same tokens stands below it.
func (f *forest) isUnit(p int) bool {
	l := f.g[p].Items
	return len(l) == 1 && l[0].Kind == Symbol
}

// ending reports whether a production has a tree over a span below others that must not stand in it.
// The way to a production that is no unit leads through others of the span; the shortest one has none of them twice.
func (f *forest) ending(p int, s span, above *chain) bool {
	if above.has(p) {
		return false
	}
	seen := map[int]bool{p: true}
	work := []int{p}
	for i := 0; i < len(work); i++ { // the list grows
		if !f.isUnit(work[i]) {
			return true
		}
		for q := range f.over(f.g[work[i]].Items[0], s) {
			if !seen[q] && !above.has(q) {
				seen[q] = true
				work = append(work, q)
			}
		}
	}
	return false
}

// kids yields the parts of a node for the items of a piece, behind those that it has so far; false, if no more are wanted.
func (f *forest) kids(k piece, own *chain, so []Tree, yield func([]Tree) bool) bool {
	items := f.g[k.prod].Items
	if k.dot == len(items) {
		return yield(so)
	}
	x := items[k.dot]
	for to := range f.firsts(k) {
		rest := piece{k.prod, k.dot + 1, span{to, k.over.to}}
		switch x.Kind {
		case Word:
			return f.kids(rest, own, so, yield)
		case Category:
			return f.kids(rest, own, append(so, Tree{Prod: -1, Token: k.over.from}), yield)
		}
		above := own
		if !f.isUnit(k.prod) {
			above = nil
		}
		for t := range f.trees(x, span{k.over.from, to}, above) {
			if !f.kids(rest, own, append(so, t), yield) {
				return false
			}
		}
	}
	return true
}

// firsts yields the ends that the first item of a piece may have, so that the others match the rest, ascending.
func (f *forest) firsts(k piece) iter.Seq[int] {
	return func(yield func(int) bool) {
		x := f.g[k.prod].Items[k.dot]
		if x.Kind != Symbol {
			if k.over.from < k.over.to && matches(x, f.tokens[k.over.from]) && f.fits(piece{k.prod, k.dot + 1, span{k.over.from + 1, k.over.to}}) {
				yield(k.over.from + 1)
			}
			return
		}
		for _, to := range f.ends[place{x.Text, k.over.from}] {
			if to > k.over.to {
				return
			}
			if f.hasTree(x, span{k.over.from, to}) && f.fits(piece{k.prod, k.dot + 1, span{to, k.over.to}}) && !yield(to) {
				return
			}
		}
	}
}

// hasTree reports whether a Symbol matches a span.
func (f *forest) hasTree(x Item, s span) bool {
	for range f.over(x, s) {
		return true
	}
	return false
}

// fits reports whether the items of a piece match.
func (f *forest) fits(k piece) bool {
	if k.dot == len(f.g[k.prod].Items) {
		return k.over.from == k.over.to
	}
	ok, met := f.known[k]
	if met {
		return ok
	}
	for range f.firsts(k) {
		ok = true
		break
	}
	f.known[k] = ok
	return ok
}
