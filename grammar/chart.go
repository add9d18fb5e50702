package grammar

import "iter"

// state is a production some of whose items match the tokens from a place on.
type state struct {
	prod, dot, from int
}

// set has the states whose matches end at one place; each of them belongs to some tree of what was asked for, whatever tokens follow.
type set struct {
	list  []state
	met   map[state]bool
	waits map[string][]state // states whose next item is a Symbol
	least map[string]int     // of each Symbol that is waited for the least priority
	top   map[place]int      // of each symbol that ends here, by its beginning, the greatest priority
}

// place is a symbol that begins at a token.
type place struct {
	symbol string
	from   int
}

func newSet() *set {
	return &set{met: map[state]bool{}, waits: map[string][]state{}, least: map[string]int{}, top: map[place]int{}}
}

func (s *set) add(x state) {
	if !s.met[x] {
		s.met[x] = true
		s.list = append(s.list, x)
	}
}

// chart has the sets of Earley's algorithm, as far as there are some that are not empty: one more than tokens that are a beginning.
type chart struct {
	g      []Prod
	symbol string
	prio   int
	tokens []Token
	by     map[string]func(prio int) iter.Seq[int] // the productions of a symbol that have at least a priority
	sets   []*set
}

func newChart(g []Prod, symbol string, prio int, l []Token) *chart {
	c := &chart{g: g, symbol: symbol, prio: prio, tokens: l}
	c.by = bySymbol(g, productive(g))
	if !c.has(symbol, prio) {
		return c
	}
	first := newSet()
	c.expect(first, symbol, prio, 0)
	c.sets = append(c.sets, first)
	c.fill()
	return c
}

// fill makes the sets, one behind the other.
func (c *chart) fill() {
sets:
	for at := 0; ; at++ {
		here := c.sets[at]
		for i := 0; ; i++ { // the list grows
			switch {
			case i < len(here.list):
				c.step(here, here.list[i], at)
			case at == len(c.tokens):
				break sets
			default:
				next := c.behind(here, c.tokens[at])
				if len(next.list) == 0 {
					break sets
				}
				c.sets = append(c.sets, next)
				continue sets
			}
		}
	}
}

// behind returns the set with the states of another one that go on with a token.
func (c *chart) behind(here *set, t Token) *set {
	next := newSet()
	for _, s := range here.list {
		if x, ok := c.item(s); ok && matches(x, t) {
			next.add(state{s.prod, s.dot + 1, s.from})
		}
	}
	return next
}

// item returns the next item of a state, if it has one.
func (c *chart) item(s state) (Item, bool) {
	l := c.g[s.prod].Items
	if s.dot == len(l) {
		return Item{}, false
	}
	return l[s.dot], true
}

// matches reports whether an item matches a token.
func matches(x Item, t Token) bool {
	switch x.Kind {
	case Word:
		return t.Kind == "" && t.Text == x.Text
	case Category:
		return t.Kind == x.Text
	}
	return false
}

// step adds what follows of a state of the set at a place: productions of the Symbol it waits for, or, if it is complete, the states that waited for it.
func (c *chart) step(here *set, s state, at int) {
	x, ok := c.item(s)
	if !ok {
		c.complete(here, s)
		return
	}
	if x.Kind == Symbol {
		here.waits[x.Text] = append(here.waits[x.Text], s)
		c.expect(here, x.Text, x.Prio, at)
	}
}

// expect adds the productions of a symbol to the set at a place, if they are not there for a priority that is not greater.
func (c *chart) expect(here *set, symbol string, prio, at int) {
	if old, ok := here.least[symbol]; ok && old <= prio {
		return
	}
	here.least[symbol] = prio
	for p := range c.by[symbol](prio) {
		here.add(state{p, 0, at})
	}
}

// complete goes on with the states that waited for a production. It began ahead of this set, as no production is empty.
// Those that another one of the same tokens has served already are left out.
func (c *chart) complete(here *set, s state) {
	p := c.g[s.prod]
	k := place{p.Left, s.from}
	old, ok := here.top[k]
	if ok && old >= p.Prio {
		return
	}
	here.top[k] = p.Prio
	for _, w := range c.sets[s.from].waits[p.Left] {
		if least := c.g[w.prod].Items[w.dot].Prio; least <= p.Prio && (!ok || least > old) {
			here.add(state{w.prod, w.dot + 1, w.from})
		}
	}
}

// has reports whether a symbol has a tree of at least a priority over some tokens.
func (c *chart) has(symbol string, prio int) bool {
	l, ok := c.by[symbol]
	if !ok {
		return false
	}
	for range l(prio) {
		return true
	}
	return false
}

// accepts reports whether all tokens have a tree.
func (c *chart) accepts() bool {
	if len(c.sets) <= len(c.tokens) {
		return false
	}
	for _, s := range c.sets[len(c.tokens)].list {
		p := c.g[s.prod]
		if s.from == 0 && s.dot == len(p.Items) && p.Left == c.symbol && p.Prio >= c.prio {
			return true
		}
	}
	return false
}

// bySymbol returns, for each symbol, what yields those of some productions that have at least a priority.
func bySymbol(g []Prod, l []int) map[string]func(int) iter.Seq[int] {
	of := map[string][]int{}
	for _, p := range l {
		of[g[p].Left] = append(of[g[p].Left], p)
	}
	out := make(map[string]func(int) iter.Seq[int], len(of))
	for symbol, prods := range of {
		out[symbol] = func(prio int) iter.Seq[int] {
			return func(yield func(int) bool) {
				for _, p := range prods {
					if g[p].Prio >= prio && !yield(p) {
						return
					}
				}
			}
		}
	}
	return out
}

// fixpoint applies a step to a value until it changes nothing.
func fixpoint[T any](x T, step func(T) (T, bool)) T {
	for {
		next, changed := step(x)
		if !changed {
			return x
		}
		x = next
	}
}

// productive returns the productions that have trees over some tokens, ascending.
// Without the others each state of a set belongs to a tree.
func productive(g []Prod) []int {
	top := fixpoint(map[string]int{}, func(top map[string]int) (map[string]int, bool) {
		changed := false
		for _, p := range g {
			old, ok := top[p.Left]
			if ok && old >= p.Prio || !canMatch(p, top) {
				continue
			}
			top[p.Left] = p.Prio
			changed = true
		}
		return top, changed
	})
	var out []int
	for i, p := range g {
		if canMatch(p, top) {
			out = append(out, i)
		}
	}
	return out
}

// canMatch reports whether all items of a production match some tokens, where the greatest priorities of symbols are known.
func canMatch(p Prod, top map[string]int) bool {
	for _, x := range p.Items {
		if most, ok := top[x.Text]; x.Kind == Symbol && (!ok || most < x.Prio) {
			return false
		}
	}
	return true
}
