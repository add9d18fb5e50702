package grammar

import (
	"fmt"
	"maps"
	"math/rand"
	"slices"
	"strings"

	"triforium/api"
)

// What the document says of trees, word by word: all trees of a span, without tables.

type naive struct {
	g []Prod
	l []Token
}

// trees returns all trees of a symbol over some tokens, in order, below nodes over the same tokens of some productions.
func (n naive) trees(symbol string, prio, from, to int, above map[int]bool) []Tree {
	var out []Tree
	for i, p := range n.g {
		if p.Left != symbol || p.Prio < prio || above[i] {
			continue
		}
		below := maps.Clone(above)
		below[i] = true
		for _, kids := range n.kids(p.Items, from, to, below) {
			out = append(out, Tree{Prod: i, Kids: kids})
		}
	}
	return out
}

// kids returns all that items match; the nodes over all of the tokens of the production are above.
func (n naive) kids(items []Item, from, to int, above map[int]bool) [][]Tree {
	if len(items) == 0 {
		if from == to {
			return [][]Tree{nil}
		}
		return nil
	}
	if to-from < len(items) { // no item is empty
		return nil
	}
	x, out := items[0], [][]Tree(nil)
	switch {
	case x.Kind == Word && from < to && n.l[from].Kind == "" && n.l[from].Text == x.Text:
		return n.kids(items[1:], from+1, to, map[int]bool{})
	case x.Kind == Category && from < to && n.l[from].Kind == x.Text:
		for _, rest := range n.kids(items[1:], from+1, to, map[int]bool{}) {
			out = append(out, append([]Tree{{Prod: -1, Token: from}}, rest...))
		}
	case x.Kind == Symbol:
		for end := from + 1; end <= to; end++ {
			same := map[int]bool{}
			if len(items) == 1 && end == to {
				same = above
			}
			rests := n.kids(items[1:], end, to, map[int]bool{})
			if len(rests) == 0 {
				continue
			}
			for _, t := range n.trees(x.Text, x.Prio, from, end, same) {
				for _, rest := range rests {
					out = append(out, append([]Tree{t}, rest...))
				}
			}
		}
	}
	return out
}

// prefixes tells for which symbols, priorities and places all tokens from the place on are a beginning: the least table that is closed.
type prefixKey struct {
	symbol     string
	prio, from int
}

func (n naive) productive(symbol string, prio int, depth int) bool {
	if depth < 0 {
		return false
	}
	return slices.ContainsFunc(n.g, func(p Prod) bool {
		return p.Left == symbol && p.Prio >= prio && n.canMatch(p.Items, depth)
	})
}

func (n naive) canMatch(items []Item, depth int) bool {
	return !slices.ContainsFunc(items, func(x Item) bool { return x.Kind == Symbol && !n.productive(x.Text, x.Prio, depth-1) })
}

func (n naive) beginning(symbol string, prio int) bool {
	table := map[prefixKey]bool{}
	depth := len(n.g)
	for changed := true; changed; {
		changed = false
		for _, p := range n.g {
			for from := range len(n.l) + 1 {
				for q := range p.Prio + 1 {
					k := prefixKey{p.Left, q, from}
					if !table[k] && n.canMatch(p.Items, depth) && n.begins(table, p.Items, from) {
						table[k], changed = true, true
					}
				}
			}
		}
	}
	return table[prefixKey{symbol, prio, 0}]
}

// begins reports whether items, all of which match some tokens, have all tokens from a place on as a beginning.
func (n naive) begins(table map[prefixKey]bool, items []Item, from int) bool {
	if from == len(n.l) {
		return true
	}
	if len(items) == 0 {
		return false
	}
	x := items[0]
	switch x.Kind {
	case Word:
		return n.l[from].Kind == "" && n.l[from].Text == x.Text && n.begins(table, items[1:], from+1)
	case Category:
		return n.l[from].Kind == x.Text && n.begins(table, items[1:], from+1)
	}
	if table[prefixKey{x.Text, x.Prio, from}] {
		return true
	}
	for end := from + 1; end <= len(n.l); end++ {
		if len(n.trees(x.Text, x.Prio, from, end, map[int]bool{})) > 0 && n.begins(table, items[1:], end) {
			return true
		}
	}
	return false
}

func (n naive) reach(symbol string, prio int) int {
	for k := len(n.l); k >= 0; k-- {
		if (naive{n.g, n.l[:k]}).beginning(symbol, prio) {
			return k
		}
	}
	return -1
}

func (n naive) next(symbol string, prio int) (words, kinds []string) {
	for _, p := range n.g {
		for _, x := range p.Items {
			t := Token{Text: x.Text}
			if x.Kind == Category {
				t = Token{Kind: x.Text, Text: "any"}
			}
			if x.Kind == Symbol || !(naive{n.g, append(slices.Clone(n.l), t)}).beginning(symbol, prio) {
				continue
			}
			if x.Kind == Word {
				words = append(words, x.Text)
			} else {
				kinds = append(kinds, x.Text)
			}
		}
	}
	slices.Sort(words)
	slices.Sort(kinds)
	return slices.Compact(words), slices.Compact(kinds)
}

// yield returns the tokens of a tree, by the document's words; its depth, or an error.
func (n naive) yield(t Tree) ([]Token, int, api.Errno) {
	if t.Prod < 0 || t.Prod >= len(n.g) || t.Token != 0 {
		return nil, 0, ErrTree
	}
	var out []Token
	kids, depth := t.Kids, 0
	for _, x := range n.g[t.Prod].Items {
		if x.Kind == Word {
			out = append(out, Token{"", x.Text})
			continue
		}
		if len(kids) == 0 {
			return nil, 0, ErrTree
		}
		k := kids[0]
		kids = kids[1:]
		if x.Kind == Category {
			if k.Prod != -1 || len(k.Kids) > 0 || k.Token < 0 || k.Token >= len(n.l) || n.l[k.Token].Kind != x.Text {
				return nil, 0, ErrTree
			}
			out = append(out, n.l[k.Token])
			depth = max(depth, 1)
			continue
		}
		if k.Prod < 0 || k.Prod >= len(n.g) || n.g[k.Prod].Left != x.Text || n.g[k.Prod].Prio < x.Prio {
			return nil, 0, ErrTree
		}
		l, d, e := n.yield(k)
		if e != api.OK {
			return nil, 0, e
		}
		out, depth = append(out, l...), max(depth, d)
	}
	if len(kids) > 0 {
		return nil, 0, ErrTree
	}
	return out, depth + 1, api.OK
}

// gen makes random grammars and tokens.
type gen struct{ *rand.Rand }

func newGen(seed int) gen { return gen{rand.New(rand.NewSource(int64(seed)))} }

func (g gen) pick(l ...string) string { return l[g.Intn(len(l))] }

func (g gen) prods(most int) []Prod {
	var out []Prod
	for range g.Intn(most) + 1 {
		p := Prod{Left: g.pick("A", "A", "B", "C"), Prio: g.Intn(3), Name: g.pick("", "x")}
		if g.Intn(2) == 0 { // a part alone, or a token
			p.Items = append(p.Items, g.item(2))
		} else {
			for range g.Intn(3) + 1 {
				p.Items = append(p.Items, g.item(4))
			}
		}
		out = append(out, p)
	}
	return out
}

func (g gen) item(tokens int) Item {
	switch g.Intn(tokens) {
	case 0:
		return Item{Kind: Symbol, Text: g.pick("A", "A", "B", "C"), Prio: g.Intn(3)}
	case 1:
		return Item{Kind: Category, Text: g.pick("k", "n")}
	}
	return Item{Kind: Word, Text: g.pick("a", "b", "k")}
}

func (g gen) tokens(n int) []Token {
	var out []Token
	for range g.Intn(n) {
		out = append(out, Token{Kind: g.pick("", "k", "n"), Text: g.pick("a", "b", "k", "")})
	}
	return out
}

// likely returns tokens that a grammar has perhaps.
func (g gen) likely(l []Prod, n int) []Token {
	var out []Token
	for len(out) < n {
		var more []string
		words, kinds, _ := Next(l, "A", 0, out)
		more = append(words, kinds...)
		if len(more) == 0 {
			break
		}
		i := g.Intn(len(more))
		if i < len(words) {
			out = append(out, Token{"", more[i]})
		} else {
			out = append(out, Token{more[i], "t"})
		}
		if g.Intn(6) == 0 {
			break
		}
	}
	return out
}

func show(t Tree) string {
	if t.Prod == -1 {
		return fmt.Sprint("#", t.Token)
	}
	var l []string
	for _, k := range t.Kids {
		l = append(l, show(k))
	}
	return fmt.Sprint(t.Prod, "(", strings.Join(l, " "), ")")
}

func showAll(l []Tree) string {
	var out []string
	for _, t := range l {
		out = append(out, show(t))
	}
	return strings.Join(out, " ")
}
