package grammar

import (
	"fmt"
	"math"
	"slices"
	"strings"
	"testing"

	"triforium/api"
)

func word(s string) Item { return Item{Kind: Word, Text: s} }

func kind(s string) Item { return Item{Kind: Category, Text: s} }

func sym(s string, prio int) Item { return Item{Kind: Symbol, Text: s, Prio: prio} }

func prod(left string, prio int, l ...Item) Prod { return Prod{Left: left, Prio: prio, Items: l} }

// toks returns tokens: digits are numbers, names in capitals are of the kind with this name, others words.
func toks(s string) []Token {
	var out []Token
	for _, w := range strings.Fields(s) {
		switch {
		case w[0] >= '0' && w[0] <= '9':
			out = append(out, Token{"NUM", w})
		case w[0] >= 'A' && w[0] <= 'Z':
			out = append(out, Token{w, "t"})
		default:
			out = append(out, Token{"", w})
		}
	}
	return out
}

// sums is the grammar of the example.
func sums(left, right int) []Prod {
	return []Prod{prod("E", 60, sym("E", left), word("+"), sym("E", right)), prod("E", 1000, kind("NUM"))}
}

func TestP151Check(t *testing.T) {
	long := strings.Repeat("x", 100)
	a := word("a")
	for i, c := range []struct {
		p  Prod
		ok bool
	}{
		{prod("A", 0, a), true}, {Prod{}, false}, {prod("", 0, a), false}, {prod(long, 1000, a), true}, {prod(long+"x", 0, a), false}, {prod("A", -1, a), false}, {prod("A", 1001, a), false}, {prod("A", math.MaxInt, a), false}, {prod("\xff\n", 5, a), true},
		{Prod{"A", 0, long, []Item{a}}, true}, {Prod{"A", 0, long + "x", []Item{a}}, false}, {prod("A", 0), false}, {prod("A", 0, slices.Repeat([]Item{a}, 30)...), true}, {prod("A", 0, slices.Repeat([]Item{a}, 31)...), false},
		{prod("A", 0, word(long)), true}, {prod("A", 0, word(long+"x")), false}, {prod("A", 0, word("")), false}, {prod("A", 0, kind("")), false}, {prod("A", 0, sym("", 0)), false}, {prod("A", 0, sym(long, 1000)), true}, {prod("A", 0, sym("A", 1001)), false}, {prod("A", 0, sym("A", -1)), false},
		{prod("A", 0, Item{Word, "a", 1}), false}, {prod("A", 0, Item{Category, "a", 1}), false}, {prod("A", 0, Item{0, "a", 0}), false}, {prod("A", 0, Item{4, "a", 0}), false}, {prod("A", 0, Item{-1, "a", 0}), false}, {prod("A", 0, a, Item{}), false},
	} {
		want := ErrGrammar
		if c.ok {
			want = api.OK
		}
		if e := Check([]Prod{prod("B", 1, a), c.p}); e != want {
			t.Error(i, e)
		}
	}
	if e := Check(nil); e != api.OK {
		t.Error(e)
	}
	l := slices.Repeat([]Prod{prod("A", 0, a)}, 501)
	if Check(l[:500]) != api.OK || Check(l) != ErrGrammar {
		t.Error("the number of productions")
	}
}

func TestP151Merge(t *testing.T) {
	a, b, c := prod("A", 0, word("a")), prod("A", 1, word("a")), Prod{"A", 0, "n", []Item{word("a")}}
	d := prod("A", 0, kind("a"))
	l, e := Merge([]Prod{a, b, a}, []Prod{c, b, d, c})
	if e != api.OK || fmt.Sprint(l) != fmt.Sprint([]Prod{a, b, c, d}) {
		t.Error(l, e)
	}
	l[0].Items[0].Text = "z"
	if a.Items[0].Text != "a" {
		t.Error("its memory is that of an argument")
	}
	var many, more []Prod
	for i := range 300 {
		many = append(many, prod("A", i, word("a")))
		more = append(more, prod("A", i+200, word("a")))
	}
	if l, e := Merge(many, more); e != api.OK || len(l) != 500 {
		t.Error(len(l), e)
	}
	more[0].Left = "B"
	if l, e := Merge(many, more); e != api.ErrCount || l != nil {
		t.Error(len(l), e)
	}
	if l, e := Merge(append(slices.Clone(many), Prod{}), more); e != ErrGrammar || l != nil {
		t.Error(e)
	}
	if _, e := Merge(many, append(slices.Clone(more), Prod{})); e != ErrGrammar {
		t.Error(e)
	}
	if _, e := Merge(slices.Repeat([]Prod{a}, 501), nil); e != ErrGrammar {
		t.Error(e)
	}
	if l, e := Merge(nil, nil); e != api.OK || len(l) != 0 {
		t.Error(e)
	}
}

// parsed returns the trees of tokens as a text, or the error.
func parsed(g []Prod, symbol string, prio int, l []Token, most int) string {
	out, e := Parse(g, symbol, prio, l, most)
	if e != api.OK {
		if out != nil {
			return "trees with an error"
		}
		return fmt.Sprint(int(e))
	}
	return showAll(out)
}

func TestP151Parse(t *testing.T) {
	ab := []Prod{prod("A", 0, sym("B", 0)), prod("B", 0, sym("A", 0)), prod("A", 0, word("a")), prod("B", 0, word("a"))}
	dangling := []Prod{prod("S", 0, word("if"), sym("S", 0)), prod("S", 0, word("if"), sym("S", 0), word("else"), sym("S", 0)), prod("S", 0, word("x"))}
	for i, c := range []struct {
		g      []Prod
		symbol string
		prio   int
		l      string
		most   int
		want   string
	}{
		{sums(60, 61), "E", 0, "1 + 2 + 3", 9, "0(0(1(#0) 1(#2)) 1(#4))"}, {sums(60, 60), "E", 0, "1 + 2 + 3", 9, "0(1(#0) 0(1(#2) 1(#4))) 0(0(1(#0) 1(#2)) 1(#4))"}, {sums(60, 60), "E", 0, "1 + 2 + 3", 1, "0(1(#0) 0(1(#2) 1(#4)))"}, {sums(61, 60), "E", 60, "1 + 2 + 3", 9, "0(1(#0) 0(1(#2) 1(#4)))"}, {sums(61, 61), "E", 0, "1 + 2 + 3", 9, "171"},
		{sums(60, 61), "E", 61, "1 + 2", 9, "171"}, {sums(60, 61), "E", 1000, "1", 9, "1(#0)"}, {sums(60, 61), "F", 0, "1", 9, "171"}, {sums(60, 61), "", 0, "1", 9, "171"}, {sums(60, 61), "E", 0, "", 9, "171"}, {sums(60, 61), "E", 0, "1 +", 9, "171"}, {sums(60, 61), "E", 0, "NUM", 9, "1(#0)"}, {nil, "E", 0, "1", 9, "171"},
		// no node stands below one of the same production over the same tokens
		{ab, "A", 0, "a", 9, "0(1(2()) ) 0(3()) 2()"}, {ab, "B", 0, "a", 9, "1(0(3())) 1(2()) 3()"},
		{[]Prod{prod("A", 0, sym("A", 0)), prod("A", 0, word("a"))}, "A", 0, "a", 9, "0(1()) 1()"}, {[]Prod{prod("A", 0, sym("A", 0)), prod("A", 0, sym("A", 0)), prod("A", 0, word("a"))}, "A", 0, "a", 9, "0(1(2())) 0(2()) 1(0(2())) 1(2()) 2()"},
		{[]Prod{prod("A", 0, sym("A", 0)), prod("A", 0, sym("A", 0), sym("A", 0)), prod("A", 0, word("a"))}, "A", 0, "a a", 99, "0(1(0(2()) 0(2()))) 0(1(0(2()) 2())) 0(1(2() 0(2()))) 0(1(2() 2())) 1(0(2()) 0(2())) 1(0(2()) 2()) 1(2() 0(2())) 1(2() 2())"},
		{dangling, "S", 0, "if if x else x", 9, "0(1(2() 2())) 1(0(2()) 2())"}, {dangling, "S", 0, "if x", 9, "0(2())"},
		// a word is no token with a kind, a kind no word
		{[]Prod{prod("A", 0, word("K"))}, "A", 0, "K", 9, "171"}, {[]Prod{prod("A", 0, kind("k"))}, "A", 0, "k", 9, "171"}, {[]Prod{prod("A", 0, kind("K"), word("k"), kind("K"))}, "A", 0, "K k K", 9, "0(#0 #2)"},
		// fewer tokens first, then trees
		{[]Prod{prod("A", 0, sym("B", 0), sym("B", 0)), prod("B", 0, word("a"), word("a")), prod("B", 1, word("a")), prod("B", 0, word("a"))}, "A", 0, "a a a", 9, "0(2() 1()) 0(3() 1()) 0(1() 2()) 0(1() 3())"}, {[]Prod{prod("A", 0, sym("B", 1), sym("B", 0)), prod("B", 0, word("a"), word("a")), prod("B", 1, word("a")), prod("B", 0, word("a"))}, "A", 0, "a a a", 9, "0(2() 1())"},
		{append(sums(60, 61), Prod{}), "E", -1, "1", 0, "170"}, {sums(60, 61), "E", -1, "1", 0, "4"}, {sums(60, 61), "E", 1001, "1", 0, "4"}, {sums(60, 61), "E", 0, "1", 0, "4"}, {sums(60, 61), "E", 0, "1", -1, "4"}, {sums(60, 61), "E", 0, "1", 1000, "1(#0)"}, {sums(60, 61), "E", 0, "1", 1001, "4"}, {sums(60, 61), "E", 0, "+", 1001, "4"},
	} {
		if s := parsed(c.g, c.symbol, c.prio, toks(c.l), c.most); s != strings.ReplaceAll(c.want, ") )", "))") {
			t.Error(i, s)
		}
	}
	if e := parsed(sums(60, 61), "E", -1, make([]Token, 201), 0); e != "4" {
		t.Error(e)
	}
	if e := parsed(sums(60, 61), "E", 0, make([]Token, 201), 0); e != "5" {
		t.Error(e)
	}
	if e := parsed(sums(60, 61), "E", 0, make([]Token, 200), 1); e != "171" {
		t.Error(e)
	}
}

// Grammars with very many trees, of which the first ones are found without the others, also on ways that lead to none.
func TestP151Many(t *testing.T) {
	l := toks(strings.TrimSuffix(strings.Repeat("1 + ", 100), "+ "))
	out, e := Parse(sums(60, 60), "E", 0, l, 1000)
	if e != api.OK || len(out) != 1000 {
		t.Error(len(out), e)
	}
	var g []Prod
	for i := range 40 {
		g = append(g, prod("A", i, sym("A", 0)))
	}
	g = append(g, prod("A", 41, word("a"), sym("A", 41)), prod("A", 41, word("a")))
	if out, e := Parse(g, "A", 0, slices.Repeat([]Token{{"", "a"}}, 150), 100); e != api.OK || len(out) != 100 || out[0].Prod != 0 {
		t.Error(e)
	}
	// a circle in which just one way leads out
	g = nil
	for i := range 30 {
		for k := range 16 {
			g = append(g, prod(fmt.Sprint("S", i), 0, sym(fmt.Sprint("S", (i+k+1)%30), 0)))
		}
	}
	g = append(g, prod("S29", 0, word("a")))
	out, e = Parse(g, "S0", 0, toks("a"), 20)
	if e != api.OK || len(out) != 20 {
		t.Error(e)
	}
	chain := []Prod{prod("S0", 7, word("b"), sym("S499", 0))}
	for i := range 499 {
		chain = append(chain, prod(fmt.Sprint("S", i+1), 0, sym(fmt.Sprint("S", i), 0)))
	}
	chain[250] = prod("S250", 0, word("b"))
	out, e = Parse(chain, "S499", 0, slices.Repeat([]Token{{"", "b"}}, 1), 5)
	if e != api.OK || len(out) != 1 {
		t.Error(e, len(out))
	}
	chain[250] = prod("S250", 0, sym("S249", 7))
	if ok, e := Accepts(chain, "S499", 0, slices.Repeat([]Token{{"", "b"}}, 200)); ok || e != api.OK {
		t.Error(ok, e)
	}
	chain = append(chain[:499], prod("S499", 0, sym("S498", 0), word("b")), prod("S0", 7, word("b")))
	chain[0] = prod("S0", 7, sym("S499", 0))
	if out, e = Parse(chain, "S499", 0, slices.Repeat([]Token{{"", "b"}}, 150), 5); len(out) != 0 || e != ErrGrammar {
		t.Error(e, len(out))
	}
	chain = slices.Delete(chain, 250, 252)
	chain[250].Items[0].Text = chain[249].Left
	if out, e = Parse(chain, "S499", 0, slices.Repeat([]Token{{"", "b"}}, 150), 5); len(out) != 1 || e != api.OK {
		t.Error(e, len(out))
	}
}

func TestP151Reach(t *testing.T) {
	g := append(sums(60, 61), prod("F", 0, sym("F", 0)), prod("G", 5, word("("), sym("E", 0), word(")")), prod("G", 5, word("("), sym("F", 0), word("]")))
	for i, c := range []struct {
		symbol string
		prio   int
		l      string
		want   int
		words  string
	}{
		{"E", 0, "", 0, "[] [NUM]"}, {"E", 0, "1", 1, "[+] []"}, {"E", 61, "1", 1, "[] []"}, {"E", 0, "1 + ( 2", 2, "[] []"}, {"E", 0, "1 +", 2, "[] [NUM]"}, {"E", 0, "+", 0, "[] []"}, {"F", 0, "", -1, "[] []"}, {"F", 0, "1", -1, "[] []"}, {"E", 1000, "", 0, "[] [NUM]"}, {"H", 0, "1 + 2", -1, "[] []"},
		{"G", 5, "( 1", 2, "[) +] []"}, {"G", 5, "( 1 ]", 2, "[] []"}, {"G", 5, "( 1 ) 2", 3, "[] []"}, {"G", 5, "( 1 )", 3, "[] []"}, {"G", 6, "( 1", -1, "[] []"}, {"", 0, "", -1, "[] []"},
	} {
		n, e := Reach(g, c.symbol, c.prio, toks(c.l))
		words, kinds, e2 := Next(g, c.symbol, c.prio, toks(c.l))
		if n != c.want || e != api.OK || e2 != api.OK || fmt.Sprint(words, kinds) != c.words {
			t.Error(i, n, words, kinds, e, e2)
		}
	}
	for i, c := range []struct {
		g    []Prod
		prio int
		n    int
		e    api.Errno
	}{{[]Prod{{}}, -1, 201, ErrGrammar}, {g, -1, 201, api.ErrRange}, {g, 1001, 0, api.ErrRange}, {g, 0, 201, api.ErrCount}, {g, 1000, 200, api.OK}} {
		l := make([]Token, c.n)
		n, e := Reach(c.g, "E", c.prio, l)
		words, kinds, e2 := Next(c.g, "E", c.prio, l)
		ok, e3 := Accepts(c.g, "E", c.prio, l)
		if e != c.e || e2 != c.e || e3 != c.e || n != 0 || words != nil || kinds != nil || ok {
			t.Error(i, e, e2, e3)
		}
	}
	l := slices.Repeat(toks("1 +"), 100)
	words, kinds, e := Next(g, "E", 0, l)
	if e != api.OK || len(words) != 0 || len(kinds) != 1 {
		t.Error("a further token behind as many as there may be", e)
	}
}

func TestP151Yield(t *testing.T) {
	g := append(sums(60, 61), prod("L", 0, kind("NUM"), word(","), sym("E", 61), word(";")), prod("L", 3, sym("L", 2)))
	l := toks("1 + 2 X")
	leaf := func(n int) Tree { return Tree{Prod: -1, Token: n} }
	num := func(n int) Tree { return Tree{Prod: 1, Kids: []Tree{leaf(n)}} }
	plus := func(a, b Tree) Tree { return Tree{Prod: 0, Kids: []Tree{a, b}} }
	for i, c := range []struct {
		t    Tree
		want string
	}{
		{plus(num(2), num(0)), "2+1"}, {num(0), "1"}, {plus(plus(num(0), num(0)), num(2)), "1+1+2"}, {plus(num(0), plus(num(0), num(2))), "172"}, {Tree{Prod: 2, Kids: []Tree{leaf(0), num(2)}}, "1,2;"}, {Tree{Prod: 2, Kids: []Tree{leaf(0), plus(num(0), num(0))}}, "172"},
		{leaf(0), "172"}, {Tree{Prod: 4}, "172"}, {Tree{Prod: -2}, "172"}, {Tree{Prod: math.MinInt}, "172"}, {Tree{Prod: 0}, "172"}, {Tree{Prod: 1}, "172"}, {Tree{Prod: 1, Kids: []Tree{leaf(0), leaf(0)}}, "172"}, {Tree{Prod: 0, Kids: []Tree{num(0)}}, "172"}, {Tree{Prod: 0, Kids: []Tree{num(0), num(0), num(0)}}, "172"},
		{num(1), "172"}, {num(3), "172"}, {num(4), "172"}, {num(-1), "172"}, {num(math.MaxInt), "172"}, {Tree{Prod: 1, Kids: []Tree{num(0)}}, "172"}, {Tree{Prod: 1, Kids: []Tree{{Prod: -2}}}, "172"}, {plus(leaf(0), num(0)), "172"}, {plus(num(0), Tree{Prod: 2, Kids: []Tree{leaf(0), num(2)}}), "172"}, {plus(Tree{Prod: 9}, num(0)), "172"},
		{Tree{Prod: 1, Token: 1, Kids: []Tree{leaf(0)}}, "172"}, {plus(Tree{Prod: 1, Token: 1, Kids: []Tree{leaf(0)}}, num(0)), "172"}, {Tree{Prod: 1, Kids: []Tree{{Prod: -1, Token: 0, Kids: []Tree{leaf(0)}}}}, "172"}, {Tree{Prod: 3, Kids: []Tree{{Prod: 2, Kids: []Tree{leaf(0), num(2)}}}}, "172"},
	} {
		out, e := Yield(g, l, c.t)
		s := ""
		for _, k := range out {
			s += k.Text
		}
		if e != api.OK {
			s += fmt.Sprint(int(e))
		}
		if s != c.want {
			t.Error(i, s)
		}
	}
	if _, e := Yield([]Prod{{}}, l, leaf(0)); e != ErrGrammar {
		t.Error(e)
	}
	if out, e := Yield(g, l, num(0)); e != api.OK || out[0] != (Token{"NUM", "1"}) {
		t.Error(out, e)
	}
	if out, e := Yield(g, l, plus(num(0), num(2))); e != api.OK || out[1] != (Token{"", "+"}) {
		t.Error(out, e)
	}
}

func TestP151YieldLimits(t *testing.T) {
	g := []Prod{prod("A", 0, slices.Repeat([]Item{word("a")}, 10)...), prod("A", 0, slices.Repeat([]Item{sym("A", 0)}, 10)...), prod("A", 0, sym("A", 0), word("a")), prod("A", 0, sym("A", 0)), prod("A", 0, kind("K"))}
	ten := Tree{}
	for range 3 {
		ten = Tree{Prod: 1, Kids: slices.Repeat([]Tree{ten}, 10)}
	}
	if out, e := Yield(g, nil, ten); e != api.OK || len(out) != 10000 {
		t.Error(len(out), e)
	}
	if out, e := Yield(g, nil, Tree{Prod: 2, Kids: []Tree{ten}}); e != api.ErrLarge || out != nil {
		t.Error(len(out), e)
	}
	if _, e := Yield(g, nil, Tree{Prod: 1, Kids: append(slices.Repeat([]Tree{ten}, 9), Tree{Prod: 9})}); e != ErrTree {
		t.Error("what is wrong comes ahead of the limits", e)
	}
	deep := Tree{Prod: 4, Kids: []Tree{{Prod: -1}}}
	for range 998 {
		deep = Tree{Prod: 3, Kids: []Tree{deep}}
	}
	if _, e := Yield(g, toks("K"), deep); e != api.OK {
		t.Error(e)
	}
	if _, e := Yield(g, nil, Tree{Prod: 3, Kids: []Tree{deep}}); e != ErrTree {
		t.Error(e)
	}
	if _, e := Yield(g, toks("K"), Tree{Prod: 3, Kids: []Tree{deep}}); e != api.ErrLarge {
		t.Error(e)
	}
	for range 1 << 16 {
		deep = Tree{Prod: 3, Kids: []Tree{deep}}
	}
	if _, e := Yield(g, toks("K"), deep); e != api.ErrLarge {
		t.Error(e)
	}
	if !Equal(deep, deep) {
		t.Error("Equal")
	}
}

func TestP151Equal(t *testing.T) {
	a := Tree{1, 2, []Tree{{Prod: 3}}}
	for i, b := range []Tree{{1, 2, []Tree{{Prod: 3}}}, {0, 2, []Tree{{Prod: 3}}}, {1, 0, []Tree{{Prod: 3}}}, {1, 2, nil}, {1, 2, []Tree{{Prod: 4}}}, {1, 2, []Tree{{Prod: 3}, {}}}, {1, 2, []Tree{{Token: 3}}}} {
		if Equal(a, b) != (i == 0) || Equal(b, a) != (i == 0) {
			t.Error(i)
		}
	}
	if !Equal(Tree{Kids: []Tree{}}, Tree{}) {
		t.Error("no kids")
	}
}

// All functions are what the document says, word by word.
func TestP151Random(t *testing.T) {
	some, many := 0, 0
	for seed := range 6000 {
		r := newGen(seed)
		g := r.prods(7)
		l := r.tokens(5)
		if r.Intn(4) > 0 {
			l = r.likely(g, 5)
		}
		prio := r.Intn(3)
		n := naive{g, l}
		want := n.trees("A", prio, 0, len(l), map[int]bool{})
		if len(want) > 3000 {
			continue
		}
		most := r.Intn(30) + 1
		out, e := Parse(g, "A", prio, l, most)
		if (e != api.OK) != (len(want) == 0) || e != api.OK && e != ErrNone || showAll(out) != showAll(want[:min(most, len(want))]) {
			t.Fatal(seed, g, l, showAll(out), e, showAll(want))
		}
		ok, e := Accepts(g, "A", prio, l)
		reach, e2 := Reach(g, "A", prio, l)
		if ok != (len(want) > 0) || e != api.OK || e2 != api.OK || reach != n.reach("A", prio) {
			t.Fatal(seed, g, l, ok, reach, n.reach("A", prio))
		}
		words, kinds, e := Next(g, "A", prio, l)
		w, k := n.next("A", prio)
		if e != api.OK || !slices.Equal(words, w) || !slices.Equal(kinds, k) {
			t.Fatal(seed, g, l, words, kinds, w, k)
		}
		some += min(1, len(want))
		many += len(want)
	}
	if some < 1500 || many < 2500 {
		t.Error(some, many)
	}
}

// Each tree has all tokens; no two are equal; it begins with the symbol.
func TestP152Trees(t *testing.T) {
	for seed := range 4000 {
		r := newGen(seed)
		g := r.prods(9)
		l := r.likely(g, 8)
		prio := r.Intn(2)
		out, e := Parse(g, "A", prio, l, 60)
		if e != api.OK {
			continue
		}
		seen := map[string]bool{}
		for _, x := range out {
			back, e := Yield(g, l, x)
			p := g[x.Prod]
			if e != api.OK || !slices.Equal(back, l) || p.Left != "A" || p.Prio < prio || seen[show(x)] {
				t.Fatal(seed, show(x))
			}
			seen[show(x)] = true
		}
		if len(out) > 1 && Equal(out[0], out[1]) {
			t.Fatal(seed)
		}
	}
}

// Yield is what the document says, also for trees of which a node is changed.
func TestP152Yield(t *testing.T) {
	wrong := 0
	for seed := range 4000 {
		r := newGen(seed)
		g := r.prods(9)
		l := r.likely(g, 8)
		out, e := Parse(g, "A", 0, l, 20)
		if e != api.OK {
			continue
		}
		for _, x := range out {
			at := &x
			for len(at.Kids) > 0 && r.Intn(3) > 0 {
				at = &at.Kids[r.Intn(len(at.Kids))]
			}
			switch r.Intn(4) {
			case 0:
				at.Prod = r.Intn(len(g)+2) - 2
			case 1:
				at.Token = r.Intn(len(l)+2) - 1
			case 2:
				at.Kids = append(at.Kids, Tree{Prod: r.Intn(3) - 1})
			case 3:
				at.Kids = at.Kids[:r.Intn(len(at.Kids)+1)]
			}
			got, e := Yield(g, l, x)
			want, _, e2 := naive{g, l}.yield(x)
			if e != e2 || !slices.Equal(got, want) {
				t.Fatal(seed, show(x), got, e, want, e2)
			}
			if e != api.OK {
				wrong++
			}
		}
	}
	if wrong < 1000 {
		t.Error(wrong)
	}
}

func TestP153All(t *testing.T) {
	for seed := range 4000 {
		r := newGen(seed)
		g := r.prods(8)
		l := r.likely(g, 12)
		ok, _ := Accepts(g, "A", 0, l)
		_, e := Parse(g, "A", 0, l, 1)
		n, _ := Reach(g, "A", 0, l)
		if ok != (e == api.OK) || ok && n != len(l) {
			t.Fatal(seed, ok, e, n)
		}
	}
}

// subsequence reports whether trees stand among others in the same order.
func subsequence(a, b []Tree) bool {
	for _, x := range b {
		if len(a) > 0 && Equal(a[0], x) {
			a = a[1:]
		}
	}
	return len(a) == 0
}

func TestP154Priorities(t *testing.T) {
	fewer := 0
	for seed := range 4000 {
		r := newGen(seed)
		g := r.prods(9)
		l := r.likely(g, 6)
		a, _ := Parse(g, "A", 1, l, 1000)
		b, _ := Parse(g, "A", 0, l, 1000)
		if len(b) < 1000 && !subsequence(a, b) {
			t.Fatal(seed)
		}
		if len(a) > 0 && len(a) < len(b) {
			fewer++
		}
	}
	if fewer < 50 {
		t.Error(fewer)
	}
}

func TestP155Extended(t *testing.T) {
	for seed := range 4000 {
		r := newGen(seed)
		g := r.prods(6)
		l := r.likely(g, 5)
		a, _ := Parse(g, "A", 0, l, 1000)
		b, _ := Parse(append(slices.Clone(g), r.prods(3)...), "A", 0, l, 1000)
		if len(b) < 1000 && !subsequence(a, b) {
			t.Fatal(seed)
		}
	}
}

// What Next tells can follow, and nothing else of the grammar.
func TestP156Next(t *testing.T) {
	for seed := range 3000 {
		r := newGen(seed)
		g := r.prods(9)
		l := r.likely(g, 9)
		if r.Intn(3) == 0 {
			l = append(l, r.tokens(3)...)
		}
		words, kinds, _ := Next(g, "A", 0, l)
		for _, p := range g {
			for _, x := range p.Items {
				if x.Kind == Symbol {
					continue
				}
				k, has := Token{"", x.Text}, slices.Contains(words, x.Text)
				if x.Kind == Category {
					k, has = Token{x.Text, "any"}, slices.Contains(kinds, x.Text)
				}
				if n, _ := Reach(g, "A", 0, append(slices.Clone(l), k)); (n == len(l)+1) != has {
					t.Fatal(seed, g, l, x, n)
				}
			}
		}
	}
}

// A result shares no memory with another one.
func TestP151Memory(t *testing.T) {
	g := sums(60, 60)
	l := toks("1 + 2 + 3 + 4")
	a, _ := Parse(g, "E", 0, l, 10)
	b, _ := Parse(g, "E", 0, l, 10)
	var spoil func(x *Tree)
	spoil = func(x *Tree) {
		for i := range x.Kids {
			spoil(&x.Kids[i])
			x.Kids[i].Prod = 77
		}
	}
	spoil(&a[0])
	for i := 1; i < len(a); i++ {
		if !Equal(a[i], b[i]) {
			t.Error(i)
		}
	}
}
