package grammar

import "triforium/api"

const (
	maxYield = 10000 // tokens
	maxDepth = 1000  // nodes of a tree within each other
)

// Yield returns the tokens of a tree.
func Yield(g []Prod, l []Token, t Tree) ([]Token, api.Errno) {
	if e := Check(g); e != api.OK {
		return nil, e
	}
	y := yielder{g: g, tokens: l}
	if !y.node(&t, 1) {
		return nil, ErrTree
	}
	if y.count > maxYield || y.depth > maxDepth {
		return nil, api.ErrLarge
	}
	return y.out, api.OK
}

// yielder collects the tokens of a tree. It walks all of it, also where they are too many: a node that is wrong comes first.
type yielder struct {
	g      []Prod
	tokens []Token
	out    []Token
	count  int
	depth  int
}

func (y *yielder) add(t Token) {
	y.count++
	if y.count <= maxYield {
		y.out = append(y.out, t)
	}
}

// node collects the tokens of a node that is no token; false, if it is none of the grammar.
func (y *yielder) node(t *Tree, depth int) bool {
	y.depth = max(y.depth, depth)
	if t.Prod < 0 || t.Prod >= len(y.g) || t.Token != 0 {
		return false
	}
	items := y.g[t.Prod].Items
	n := 0
	for _, x := range items {
		if x.Kind == Word {
			y.add(Token{Text: x.Text})
			continue
		}
		if n == len(t.Kids) || !y.kid(x, &t.Kids[n], depth+1) {
			return false
		}
		n++
	}
	return n == len(t.Kids)
}

// kid collects the tokens of a part for an item.
func (y *yielder) kid(x Item, t *Tree, depth int) bool {
	if x.Kind == Category {
		return y.leaf(x, t, depth)
	}
	if t.Prod < 0 || t.Prod >= len(y.g) {
		return false
	}
	p := y.g[t.Prod]
	return p.Left == x.Text && p.Prio >= x.Prio && y.node(t, depth)
}

func (y *yielder) leaf(x Item, t *Tree, depth int) bool {
	y.depth = max(y.depth, depth)
	if t.Prod != -1 || len(t.Kids) != 0 || t.Token < 0 || t.Token >= len(y.tokens) {
		return false
	}
	k := y.tokens[t.Token]
	y.add(k)
	return k.Kind == x.Text
}
