package mixfix

import (
	"math"
	"math/rand"
	"reflect"
	"slices"
	"testing"

	"triforium/api"
	"triforium/grammar"
	"triforium/infer"
	"triforium/outer"
	"triforium/token"
)

// garbage makes values that are right only now and then.
type garbage struct {
	*rand.Rand
	right gen
}

func (g garbage) pick(l ...string) string { return l[g.Intn(len(l))] }

func (g garbage) number() int {
	return []int{0, 0, 0, 1, 2, 5, 100, -1, 999, 1000, 1001, 1000001, math.MaxInt, math.MinInt}[g.Intn(14)]
}

func (g garbage) word() string {
	return g.pick("+", "==>", "(", ")", "x", "y", "", "a b", "\xff", "::", "%", ".", "nat", "zero", "And", "é", `\<open>`, "have", "by", "fix", "'a", "?x.1", "?'a", "7", `"s"`, "(*", "`", "=", ":", "where", "A", "E", "NUM")
}

func (g garbage) text() string {
	s := ""
	for range g.Intn(8) {
		s += g.word() + g.pick(" ", " ", "", "\n")
	}
	return s
}

func (g garbage) typ(depth int) api.Type {
	if g.Intn(2) == 0 {
		return g.right.typ(depth)
	}
	t := api.Type{Op: g.Intn(6) - 1, Name: g.pick("a", "nat", "fun", "list", "", "1", "set", "b.c"), Index: g.number()}
	for range g.Intn(3) {
		t.Sort = append(t.Sort, g.pick("c", "d", "e", ""))
	}
	for range g.Intn(3) {
		if depth > 0 {
			t.Args = append(t.Args, g.typ(depth-1))
		}
	}
	return t
}

func (g garbage) term(depth int) api.Term {
	switch g.Intn(4) {
	case 0:
		return g.right.term(g.right.typ(1), nil, depth)
	case 1:
		return infer.Erase(g.right.term(g.right.typ(1), nil, depth))
	}
	t := api.Term{Op: g.Intn(10) - 1, Name: g.pick("x", "zero", "plus", "", "1", "none"), Num: g.number()}
	if g.Intn(2) == 0 {
		t.Type = g.typ(1)
	}
	for range g.Intn(4) {
		if depth > 0 {
			t.Kids = append(t.Kids, g.term(depth-1))
		}
	}
	return t
}

func (g garbage) list(n int) []string {
	var l []string
	for range g.Intn(n) {
		l = append(l, g.word())
	}
	return l
}

func (g garbage) notations() []Notation {
	l := g.right.notations()
	if g.Intn(3) > 0 {
		return l
	}
	n := Notation{Const: g.word(), Kind: g.number(), Words: g.list(4), Prio: g.number()}
	for range g.Intn(3) {
		n.Prios = append(n.Prios, g.number())
	}
	return append(l, n)
}

func (g garbage) theory() api.Theory {
	t := logic()
	switch g.Intn(6) {
	case 0:
		t.Consts = append(t.Consts, api.ConstDecl{Name: g.word(), Type: g.typ(1)})
	case 1:
		t.Classes = append(t.Classes, api.Class{Name: g.word()})
	case 2:
		t.Name = g.word()
	}
	return t
}

func (g garbage) prods() []grammar.Prod {
	var l []grammar.Prod
	for range g.Intn(8) {
		p := grammar.Prod{Left: g.pick("A", "A", "E"), Prio: g.Intn(3), Name: g.word()}
		for range g.Intn(4) {
			x := grammar.Item{Kind: g.Intn(3) + 1, Text: g.pick("A", "E", "x", "y"), Prio: 0}
			if g.Intn(30) == 0 {
				x.Prio, x.Kind = g.number(), g.number()
			}
			p.Items = append(p.Items, x)
		}
		if g.Intn(30) == 0 {
			p.Prio = g.number()
			p.Left = g.word()
		}
		if len(p.Items) > 0 || g.Intn(30) == 0 {
			l = append(l, p)
		}
	}
	return l
}

func (g garbage) tree(depth int) grammar.Tree {
	t := grammar.Tree{Prod: g.Intn(6) - 1}
	if g.Intn(4) == 0 {
		t.Token = g.number()
	}
	for range g.Intn(3) {
		if depth > 0 {
			t.Kids = append(t.Kids, g.tree(depth-1))
		}
	}
	return t
}

// call is a call of a function: what it was given, and what it returns, the error last.
type call struct {
	name    string
	in, out []any
}

func both(v ...any) []any { return v }

// calls calls the functions of the five packages.
func (g garbage) calls() []call {
	l, thy, text := g.notations(), g.theory(), g.text()
	var known []infer.Known
	for range g.Intn(3) {
		known = append(known, infer.Known{Name: g.word(), Type: g.typ(1)})
	}
	x, y, k, n := g.term(3), g.term(3), g.typ(2), g.number()
	terms, types := []api.Term{x, y}, []api.Type{k, {}}
	out := []call{
		{"mixfix.Check", both(l), both(Check(l))}, {"mixfix.Grammar", both(l), both(Grammar(l))}, {"mixfix.Readings", both(l), both(Readings(l, text, n))}, {"mixfix.Read", both(thy, l, known, k), both(Read(thy, l, known, text, k))},
		{"mixfix.Type", nil, both(Type(text))}, {"mixfix.TypeText", both(k), both(TypeText(k))}, {"mixfix.Print", both(thy, l, known, x), both(Print(thy, l, known, x))},
		{"infer.Form", both(x), both(infer.Form(x))}, {"infer.Terms", both(thy, known, terms, types), both(infer.Terms(thy, known, terms, types))}, {"infer.Term", both(thy, known, x, k), both(infer.Term(thy, known, x, k))}, {"infer.Choose", both(thy, known, terms, k), both(infer.Choose(thy, known, terms, k))}, {"infer.Erase", both(x), both(infer.Erase(x), api.OK)}, {"infer.Pinned", both(thy, known, x), both(infer.Pinned(thy, known, x))},
		{"mixfix.Keywords", both(l), both(Keywords(l), api.OK)}, {"mixfix.Pure", nil, both(Pure(), api.OK)},
	}
	return append(out, g.lowerCalls(text)...)
}

// lowerCalls is calls of token, grammar and outer.
func (g garbage) lowerCalls(text string) []call {
	words, a, b, n, t := g.list(4), g.prods(), g.prods(), g.number(), g.tree(3)
	tok := token.Token{Kind: g.Intn(13) - 1, Text: g.word(), At: g.number()}
	toks := []token.Token{tok, {Kind: token.Ident, Text: "x"}}
	var in []grammar.Token
	for range g.Intn(3) {
		in = append(in, grammar.Token{Kind: g.pick("", "", "A", "x"), Text: g.pick("x", "y", "")})
	}
	symbol, prio, at := g.pick("A", "E", ""), g.Intn(3), g.Intn(9)-1
	if g.Intn(9) == 0 {
		prio, at = g.number(), g.number()
	}
	c := outer.Command{Word: g.word(), At: n, Parts: []outer.Part{{Kind: g.Intn(7), Text: g.word(), Num: g.number()}}}
	spans := outer.Spans(text)
	return []call{
		{"token.Check", both(words), both(token.Check(words))}, {"token.Scan", both(words), both(token.Scan(words, text))}, {"token.Write", both(words), both(token.Write(words, tok))}, {"token.Join", both(words, toks), both(token.Join(words, toks))}, {"token.Symbols", nil, both(token.Symbols(text), token.Plain(text), api.OK)},
		{"grammar.Check", both(a), both(grammar.Check(a))}, {"grammar.Merge", both(a, b), both(grammar.Merge(a, b))}, {"grammar.Parse", both(a, in), both(grammar.Parse(a, symbol, prio, in, at+2))}, {"grammar.Accepts", both(a, in), both(grammar.Accepts(a, symbol, prio, in))}, {"grammar.Reach", both(a, in), both(grammar.Reach(a, symbol, prio, in))}, {"grammar.Next", both(a, in), both(grammar.Next(a, symbol, prio, in))}, {"grammar.Yield", both(a, in, t), both(grammar.Yield(a, in, t))}, {"grammar.Equal", both(t), both(grammar.Equal(t, g.tree(2)), api.OK)},
		{"outer.Spans", nil, both(spans, api.OK)}, {"outer.Read", nil, both(outer.Read(text))}, {"outer.Commands", nil, both(outer.Commands(text))}, {"outer.Write", both(c), both(outer.Write(c))}, {"outer.Edited", both(spans), both(outer.Edited(spans, text, at, prio, text))},
	}
}

// memory returns where the slices of a value lie.
func memory(v reflect.Value) []uintptr {
	var out []uintptr
	switch v.Kind() {
	case reflect.Interface:
		return memory(v.Elem())
	case reflect.Slice:
		if v.Len() > 0 {
			out = append(out, v.Pointer())
		}
		for i := range v.Len() {
			out = append(out, memory(v.Index(i))...)
		}
	case reflect.Struct:
		for i := range v.NumField() {
			out = append(out, memory(v.Field(i))...)
		}
	}
	return out
}

// P1: no function panics, whatever it is given; with an error each other result is its zero value, but for byte offsets; results are new memory.
func TestP1Garbage(t *testing.T) {
	right := map[string]int{}
	for seed := range 5000 {
		r := rand.New(rand.NewSource(int64(seed)))
		g := garbage{r, gen{r, logic()}}
		for _, c := range g.calls() {
			last := len(c.out) - 1
			if c.out[last].(api.Errno) == api.OK {
				right[c.name]++
				found := memory(reflect.ValueOf(c.out))
				all := slices.Sorted(slices.Values(append(memory(reflect.ValueOf(c.in)), found...)))
				own := slices.Sorted(slices.Values(found))
				if len(slices.Compact(slices.Clone(own))) != len(own) {
					t.Fatal(seed, c.name, "parts of a result share memory")
				}
				for i := 1; i < len(all); i++ {
					if _, is := slices.BinarySearch(own, all[i]); is && all[i] == all[i-1] {
						t.Fatal(seed, c.name, "a result shares memory with an argument")
					}
				}
				continue
			}
			for _, v := range c.out[:last] {
				if _, isPlace := v.(int); !isPlace && !reflect.ValueOf(v).IsZero() {
					t.Fatal(seed, c)
				}
			}
		}
	}
	for _, name := range []string{"mixfix.Check", "mixfix.Readings", "mixfix.Read", "mixfix.Type", "mixfix.TypeText", "mixfix.Print", "infer.Form", "infer.Terms", "infer.Term", "infer.Choose", "infer.Pinned", "token.Check", "token.Scan", "token.Write", "token.Join", "grammar.Parse", "grammar.Accepts", "grammar.Next", "grammar.Yield", "outer.Read", "outer.Write", "outer.Edited"} {
		if right[name] < 3 {
			t.Error("hardly tried", name, right[name])
		}
	}
}

// With an error a place is one of the text; where no place is named, 0.
func TestP1Places(t *testing.T) {
	for seed := range 5000 {
		r := rand.New(rand.NewSource(int64(seed)))
		g := garbage{r, gen{r, logic()}}
		text := g.text()
		_, a, _ := Readings(signs(), text, 3)
		_, b, _ := token.Scan(nil, text)
		_, c, _ := outer.Read(text)
		_, d, _ := outer.Commands(text)
		for _, at := range []int{a, b, c, d} {
			if at < 0 || at > len(text) {
				t.Fatal(seed, text, a, b, c, d)
			}
		}
	}
}
