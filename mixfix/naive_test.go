package mixfix

import (
	"fmt"
	"math/rand"
	"regexp"
	"slices"
	"strconv"
	"strings"

	"triforium/api"
	"triforium/grammar"
	"triforium/infer"
	"triforium/term"
	"triforium/theory"
	"triforium/token"
	"triforium/types"
)

// What the document says of reading and writing, written out again: trees by the names of their productions, texts token by token.

// table is the document's table of productions, column by column.
const table = "term 1000 name <id>|term 1000 var <var>|term 1000 brackets `(` term:0 `)`|term 999 app term:999 term:1000|term 3 abs `%` idts:0 `.` term:3|term 3 typed term:4 `::` type:0|" +
	"idts 0 one idt:0|idts 0 more idt:0 idts:0|idt 0 name <id>|idt 0 typed `(` <id> `::` type:0 `)`|" +
	"type 1000 tfree <tfree>|type 1000 sorted <tfree> `::` sort:0|type 1000 tvar <tvar>|type 1000 sorted <tvar> `::` sort:0|type 1000 name <id>|type 1000 brackets `(` type:0 `)`|type 999 app type:999 <id>|type 999 apps `(` type:0 `,` types:0 `)` <id>|type 0 fun type:1 `=>` type:0|" +
	"types 0 one type:0|types 0 more type:0 `,` types:0|sort 0 one <id>|sort 0 none `{` `}`|sort 0 some `{` ids:0 `}`|ids 0 one <id>|ids 0 more <id> `,` ids:0"

// showProd writes a production as it stands in the table.
func showProd(p grammar.Prod) string {
	out := fmt.Sprint(p.Left, " ", p.Prio, " ", p.Name)
	for _, x := range p.Items {
		switch x.Kind {
		case grammar.Word:
			out += " `" + x.Text + "`"
		case grammar.Category:
			out += " <" + x.Text + ">"
		case grammar.Symbol:
			out += fmt.Sprint(" ", x.Text, ":", x.Prio)
		}
	}
	return out
}

// tokensOf returns the tokens of a text in the grammar.
func tokensOf(l []Notation, text string) []grammar.Token {
	found, _, _ := token.Scan(Keywords(l), text)
	kinds := map[int]string{token.Ident: "id", token.Long: "id", token.Schema: "var", token.TypeVar: "tfree", token.SchemaT: "tvar", token.Number: "num", token.String: "str", token.Quoted: "str"}
	var out []grammar.Token
	for _, t := range found {
		out = append(out, grammar.Token{Kind: kinds[t.Kind], Text: t.Text})
	}
	return out
}

// naive makes terms of trees.
type naive struct {
	l []Notation
	g []grammar.Prod
	t []grammar.Token
}

func (n naive) leaf(t grammar.Tree) string { return n.t[t.Token].Text }

var schematic = regexp.MustCompile(`^\?'?([^.]*)(?:\.([0-9]+))?$`)

func (n naive) typ(t grammar.Tree) api.Type {
	k := t.Kids
	switch p := n.g[t.Prod]; p.Left + " " + p.Name {
	case "type tfree", "type tvar", "type sorted":
		var out api.Type
		if s := n.leaf(k[0]); s[0] == '\'' {
			out = api.Type{Op: api.TFree, Name: s[1:]}
		} else {
			m := schematic.FindStringSubmatch(s)
			index, _ := strconv.Atoi(m[2])
			out = api.Type{Op: api.TVar, Name: m[1], Index: index}
		}
		if len(k) > 1 {
			seen := map[string]bool{}
			n.classes(k[1], seen)
			for c := range seen {
				out.Sort = append(out.Sort, c)
			}
			slices.Sort(out.Sort)
		}
		return out
	case "type name":
		return api.Type{Op: api.TCon, Name: n.leaf(k[0])}
	case "type app":
		return api.Type{Op: api.TCon, Name: n.leaf(k[1]), Args: []api.Type{n.typ(k[0])}}
	case "type apps":
		out := api.Type{Op: api.TCon, Name: n.leaf(k[2]), Args: []api.Type{n.typ(k[0])}}
		for rest := k[1]; ; rest = rest.Kids[1] {
			out.Args = append(out.Args, n.typ(rest.Kids[0]))
			if len(rest.Kids) == 1 {
				return out
			}
		}
	case "type fun":
		return types.Fun(n.typ(k[0]), n.typ(k[1]))
	}
	return n.typ(k[0])
}

func (n naive) classes(t grammar.Tree, seen map[string]bool) {
	if t.Prod == -1 {
		seen[n.leaf(t)] = true
	}
	for _, k := range t.Kids {
		n.classes(k, seen)
	}
}

// variables returns names and types of idts.
func (n naive) variables(t grammar.Tree) []api.Term {
	if n.g[t.Prod].Left == "idts" {
		var out []api.Term
		for _, k := range t.Kids {
			out = append(out, n.variables(k)...)
		}
		return out
	}
	v := api.Term{Op: api.Abs, Name: n.leaf(t.Kids[0])}
	if len(t.Kids) > 1 {
		v.Type = n.typ(t.Kids[1])
	}
	return []api.Term{v}
}

// over returns the body in abstractions over variables, each an argument of a head, if there is one.
func (n naive) over(vars []api.Term, head *api.Term, body grammar.Tree, around []string) api.Term {
	if len(vars) == 0 {
		return n.term(body, around)
	}
	v := vars[0]
	v.Kids = []api.Term{n.over(vars[1:], head, body, append([]string{v.Name}, around...))}
	if head == nil {
		return v
	}
	return term.Apps(*head, []api.Term{v})
}

func (n naive) term(t grammar.Tree, around []string) api.Term {
	k := t.Kids
	if i := t.Prod - 26; i >= 0 {
		c := api.Term{Op: api.Const, Name: n.l[i].Const}
		if n.l[i].Kind == Binder {
			return n.over(n.variables(k[0]), &c, k[1], around)
		}
		for _, a := range k {
			c = term.Apps(c, []api.Term{n.term(a, around)})
		}
		return c
	}
	switch n.g[t.Prod].Name {
	case "name":
		if i := slices.Index(around, n.leaf(k[0])); i >= 0 {
			return api.Term{Op: api.Bound, Num: i}
		}
		return api.Term{Op: api.Free, Name: n.leaf(k[0])}
	case "var":
		m := schematic.FindStringSubmatch(n.leaf(k[0]))
		num, _ := strconv.Atoi(m[2])
		return api.Term{Op: api.Var, Name: m[1], Num: num}
	case "brackets":
		return n.term(k[0], around)
	case "app":
		return term.Apps(n.term(k[0], around), []api.Term{n.term(k[1], around)})
	case "abs":
		return n.over(n.variables(k[0]), nil, k[1], around)
	}
	return api.Term{Op: infer.Constraint, Type: n.typ(k[1]), Kids: []api.Term{n.term(k[0], around)}}
}

// naiveReadings returns the readings of a text that has some.
func naiveReadings(l []Notation, text string, most int) []api.Term {
	g, _ := Grammar(l)
	n := naive{l, g, tokensOf(l, text)}
	trees, _ := grammar.Parse(g, "term", 0, n.t, most)
	var out []api.Term
	for _, t := range trees {
		x := n.term(t, nil)
		if !slices.ContainsFunc(out, func(o api.Term) bool { return term.Equal(o, x) }) {
			out = append(out, x)
		}
	}
	return out
}

// naiveRead is Read by the document's words.
func naiveRead(thy api.Theory, l []Notation, known []infer.Known, text string, want api.Type) (api.Term, api.Errno) {
	if e := theory.Check(thy); e != api.OK {
		return api.Term{}, e
	}
	out, _, e := Readings(l, text, 31)
	if e != api.OK {
		return api.Term{}, e
	}
	if len(out) == 31 {
		return api.Term{}, api.ErrLarge
	}
	var constants func(t api.Term) api.Term
	constants = func(t api.Term) api.Term {
		_, is := theory.Const(thy, t.Name)
		if t.Op == api.Free && is && !slices.ContainsFunc(known, func(k infer.Known) bool { return k.Name == t.Name }) {
			t.Op = api.Const
		}
		kids := slices.Clone(t.Kids)
		for i := range kids {
			kids[i] = constants(kids[i])
		}
		t.Kids = kids
		return t
	}
	for i := range out {
		out[i] = constants(out[i])
	}
	t, _, e := infer.Choose(thy, known, out, want)
	return t, e
}

// printer writes a term again: tokens with blanks, which are taken out at the end.
type printer struct {
	thy  api.Theory
	l    []Notation
	used []string
	all  bool
}

func (p printer) in(s string, prio, place int) string {
	if prio < place || p.all && strings.Contains(s, " ") {
		return "( " + s + " )"
	}
	return s
}

func (p printer) typ(t api.Type, place int) string {
	var s string
	prio := 999
	switch {
	case t.Op == api.TFree || t.Op == api.TVar:
		s = map[int]string{api.TFree: "'", api.TVar: "?'"}[t.Op] + t.Name
		if t.Op == api.TVar && t.Index > 0 {
			s += fmt.Sprint(".", t.Index)
		}
		if len(t.Sort) == 1 {
			s += " :: " + t.Sort[0]
		} else if len(t.Sort) > 1 {
			s += " :: { " + strings.Join(t.Sort, " , ") + " }"
		}
		prio = 1000
	case t.Name == "fun" && len(t.Args) == 2:
		s, prio = p.typ(t.Args[0], 1)+" => "+p.typ(t.Args[1], 0), 0
	case len(t.Args) == 0:
		s, prio = t.Name, 1000
	case len(t.Args) == 1:
		s = p.typ(t.Args[0], 999) + " " + t.Name
	default:
		var l []string
		for _, a := range t.Args {
			l = append(l, p.typ(a, 0))
		}
		s = "( " + strings.Join(l, " , ") + " ) " + t.Name
	}
	return p.in(s, prio, place)
}

func (p printer) term(t api.Term, place int, around []string) string {
	f, args := term.Spine(t)
	if f.Op == api.Const && f.Type.Op == 0 {
		for _, n := range p.l {
			if n.Const != f.Name {
				continue
			}
			switch {
			case n.Kind == Binder && len(args) == 1 && args[0].Op == api.Abs:
				return p.in(p.abs(n.Words[0], args[0], n.Prio, around), n.Prio, place)
			case n.Kind == Mixfix && len(args) == len(n.Prios):
				var l []string
				for i, w := range n.Words {
					l = append(l, w)
					if i < len(args) {
						l = append(l, p.term(args[i], n.Prios[i], around))
					}
				}
				return p.in(strings.Join(strings.Fields(strings.Join(l, " ")), " "), n.Prio, place)
			case n.Kind >= Infix && n.Kind <= Infixr && len(args) == 2:
				left, right := n.Prio+1, n.Prio+1
				if n.Kind == Infixl {
					left--
				}
				if n.Kind == Infixr {
					right--
				}
				return p.in(p.term(args[0], left, around)+" "+n.Words[0]+" "+p.term(args[1], right, around), n.Prio, place)
			}
		}
	}
	if n := len(args); n > 0 {
		// all but the last argument: the head stands with more than these
		q := p
		q.l = nil
		head := f
		s := q.plain(head, 999, around, p)
		for i, a := range args {
			s += " " + p.term(a, 1000, around)
			if i < n-1 {
				s = p.in(s, 999, 999)
			}
		}
		return p.in(s, 999, place)
	}
	return p.plain(f, place, around, p)
}

// plain writes what is no application; q writes what stands in it.
func (p printer) plain(t api.Term, place int, around []string, q printer) string {
	s := t.Name
	switch t.Op {
	case api.Bound:
		return around[t.Num]
	case api.Abs:
		return p.in(q.abs("%", t, 3, around), 3, place)
	case api.Var:
		s = "?" + s
		if t.Num > 0 {
			s += fmt.Sprint(".", t.Num)
		}
	}
	if t.Type.Op == 0 {
		return s
	}
	return p.in(s+" :: "+p.typ(t.Type, 0), 3, place)
}

func (p printer) abs(word string, t api.Term, place int, around []string) string {
	name := t.Name
	if !regexp.MustCompile(`^[A-Za-z_][A-Za-z0-9_']*$`).MatchString(name) {
		name = "x"
	}
	name = term.Variant(name, slices.Concat(p.used, around))
	v := name
	if t.Type.Op != 0 {
		v = "( " + name + " :: " + p.typ(t.Type, 0) + " )"
	}
	return word + " " + v + " . " + p.term(t.Kids[0], place, append([]string{name}, around...))
}

var inner, before, star = regexp.MustCompile(`([({]) `), regexp.MustCompile(` ([)},.])( |$)`), regexp.MustCompile(`\((\*)`)

// spaced takes out the spaces that must not stand between tokens.
func spaced(s string) string {
	s = strings.ReplaceAll(s, " ", "  ") // so that each token has spaces of its own
	s = regexp.MustCompile(`(^|  )([({])  `).ReplaceAllString(s, "$1$2")
	for range 3 { // several brackets in a row
		s = regexp.MustCompile(`([({])([({])  `).ReplaceAllString(s, "$1$2")
	}
	s = regexp.MustCompile(`  ([)},.])`).ReplaceAllString(s, "$1")
	s = star.ReplaceAllString(s, "( $1")
	return strings.ReplaceAll(s, "  ", " ")
}

// naivePrint is Print by the document's words.
func naivePrint(thy api.Theory, l []Notation, known []infer.Known, t api.Term) (string, api.Errno) {
	if e := Check(l); e != api.OK {
		return "", e
	}
	x, e := infer.Pinned(thy, known, t)
	if e != api.OK {
		return "", e
	}
	p := printer{thy: thy, l: l, used: Keywords(l)}
	for n := range term.Nodes(t) {
		if n.Op == api.Free || n.Op == api.Const {
			p.used = append(p.used, n.Name)
		}
	}
	for range 2 {
		s := p.term(x, 0, nil)
		if p.all && strings.HasPrefix(s, "( ") && len(s) > 4 { // the whole has none
			s = s[2 : len(s)-2]
		}
		s = spaced(s)
		if back, e := naiveRead(thy, l, known, s, api.Type{}); e == api.OK && term.Equal(back, t) {
			return s, api.OK
		}
		p.all = true
	}
	return "", ErrNoText
}

// gen makes random notations, texts and terms.
type gen struct {
	*rand.Rand
	thy api.Theory
}

func newGen(seed int, thy api.Theory) gen { return gen{rand.New(rand.NewSource(int64(seed))), thy} }

func (g gen) pick(l ...string) string { return l[g.Intn(len(l))] }

// notations returns some of a list, and others that are perhaps ambiguous.
func (g gen) notations() []Notation {
	var out []Notation
	for _, n := range signs() {
		if g.Intn(4) > 0 {
			out = append(out, n)
		}
	}
	for range g.Intn(4) {
		n := Notation{Const: g.pick("And", "Or", "plus", "minus", "zero", "suc", "nil", "cons", "mk", "id", "Ex"), Kind: g.Intn(5) + 1, Prio: g.Intn(12) * 90}
		word := func() string {
			return g.pick("+", "&", "<", ",", "*", "[", "]", "(", "{", "|", ":", "then", "%", ".", `\<and>`)
		}
		if n.Kind == Mixfix {
			n.Words = []string{g.pick("", word())}
			for range g.Intn(3) {
				n.Words, n.Prios = append(n.Words, g.pick("", word())), append(n.Prios, g.Intn(12)*90)
			}
		} else {
			n.Words = []string{word()}
		}
		if Check(append(slices.Clone(out), n)) == api.OK {
			out = append(out, n)
		}
	}
	g.Shuffle(len(out), func(i, k int) { out[i], out[k] = out[k], out[i] })
	return out
}

// text returns a text that perhaps has readings.
func (g gen) text(l []Notation, n int) string {
	prods, _ := Grammar(l)
	samples := map[string][]string{"id": {"x", "y", "And", "zero", "a.b"}, "var": {"?x", "?y.3"}, "tfree": {"'a", "'b"}, "tvar": {"?'a", "?'a.1"}, "num": {"1"}, "str": {`"s"`}}
	var out []string
	var sofar []grammar.Token
	for range n {
		words, kinds, _ := grammar.Next(prods, "term", 0, sofar)
		all := slices.Concat(words, kinds, kinds, kinds)
		if len(all) == 0 {
			break
		}
		if i := g.Intn(len(all)); i < len(words) {
			out = append(out, words[i])
			sofar = append(sofar, grammar.Token{Text: words[i]})
		} else {
			out = append(out, g.pick(samples[all[i]]...))
			sofar = append(sofar, grammar.Token{Kind: all[i], Text: "t"})
		}
		if ok, _ := grammar.Accepts(prods, "term", 0, sofar); ok && g.Intn(4) == 0 {
			break
		}
	}
	return strings.Join(out, " ")
}

func (g gen) typ(depth int) api.Type {
	if depth > 0 && g.Intn(3) == 0 {
		switch g.Intn(3) {
		case 0:
			return types.Fun(g.typ(depth-1), g.typ(depth-1))
		case 1:
			return api.Type{Op: api.TCon, Name: "list", Args: []api.Type{g.typ(depth - 1)}}
		}
		return api.Type{Op: api.TCon, Name: "pair", Args: []api.Type{g.typ(depth - 1), g.typ(depth - 1)}}
	}
	return of(g.pick("nat", "nat", "bool", "bool", "prop", "'a", "'b", "'c{c,d}", "?a.0", "?a.2{c}"))
}

// term returns a term of a type, within abstractions of some types, the outermost one first. It is right, but perhaps for the types of its variables.
func (g gen) term(t api.Type, around []api.Type, depth int) api.Term {
	for range 3 {
		if len(around) > 0 {
			if i := g.Intn(len(around)); types.Equal(around[i], t) {
				return api.Term{Op: api.Bound, Num: len(around) - 1 - i}
			}
		}
	}
	if depth > 0 {
		if types.IsFun(t) && g.Intn(3) > 0 {
			return api.Term{Op: api.Abs, Name: g.pick("x", "y", "", "x", "k.l"), Type: t.Args[0], Kids: []api.Term{g.term(t.Args[1], append(around, t.Args[0]), depth-1)}}
		}
		if g.Intn(6) > 0 {
			if x, ok := g.constant(t, around, depth); ok {
				return x
			}
		}
		if g.Intn(3) == 0 {
			a := g.typ(1)
			return term.Apps(g.term(types.Fun(a, t), around, depth-1), []api.Term{g.term(a, around, depth-1)})
		}
	}
	if g.Intn(3) == 0 {
		if x, ok := g.constant(t, around, 0); ok {
			return x
		}
	}
	s, _ := types.Text(t)
	name := "v" + fmt.Sprint(len(s)%7)
	if t.Name == "nat" || t.Name == "bool" {
		name = t.Name[:1]
	}
	if g.Intn(4) == 0 {
		return api.Term{Op: api.Var, Name: name, Num: len(s) % 3, Type: t}
	}
	return api.Term{Op: api.Free, Name: name, Type: t}
}

// constant returns a constant applied to arguments, of a type.
func (g gen) constant(t api.Type, around []api.Type, depth int) (api.Term, bool) {
	for range 8 {
		c := g.thy.Consts[g.Intn(len(g.thy.Consts))]
		args, result := types.Strip(c.Type)
		if depth == 0 && len(args) > 0 {
			continue
		}
		l, e := types.Match(g.thy, result, t, nil)
		if e != api.OK {
			continue
		}
		for _, v := range types.Variables(c.Type) {
			l = append(l, api.TypeBind{Name: v.Name, Index: v.Index, To: of("nat")})
		}
		x := api.Term{Op: api.Const, Name: c.Name, Type: types.Apply(l, c.Type)}
		for _, a := range args {
			x = term.Apps(x, []api.Term{g.term(types.Apply(l, a), around, depth-1)})
		}
		return x, true
	}
	return api.Term{}, false
}
