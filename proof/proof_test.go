package proof

import (
	"fmt"
	"math"
	"slices"
	"strings"
	"testing"

	"triforium/api"
	"triforium/term"
	"triforium/types"
)

// of reads a term: N stands for nat, P for prop, and F(..) for the type of functions.
func of(s string) api.Term {
	s = strings.NewReplacer("N", "nat", "P", "prop", "F(", "fun(").Replace(s)
	t, e := term.Read(s)
	if e != api.OK {
		panic(fmt.Sprint("no term: ", s, " ", e))
	}
	return t
}

func typ(s string) api.Type {
	t, e := types.Read(s)
	if e != api.OK {
		panic(fmt.Sprint("no type: ", s, " ", e))
	}
	return t
}

// node returns a proof of a kind with a term and Kids.
func node(op int, t string, kids ...api.Proof) api.Proof {
	p := api.Proof{Op: op, Kids: kids}
	if t != "" {
		p.Term = of(t)
	}
	return p
}

func refl(t string) api.Proof { return node(api.Reflexive, t) }

func assume(t string) api.Proof { return node(api.Assume, t) }

// one returns a right node of each kind, by its number.
func one() [19]api.Proof {
	a, b := assume("$A:P"), refl("$x:N")
	return [...]api.Proof{
		{},
		{Op: api.ByAxiom, Name: "ax"},
		{Op: api.ByOracle, Name: "or", Term: of("$A:P")},
		a,
		node(api.ImpIntro, "$A:P", a),
		node(api.ImpElim, "", a, b),
		node(api.AllIntro, "$x:N", a),
		node(api.AllElim, "$y:N", a),
		b,
		node(api.Symmetric, "", a),
		node(api.Transitive, "", a, b),
		node(api.Combination, "", a, b),
		node(api.Abstraction, "$x:N", a),
		node(api.Beta, "((\\x:N . #0) $x:N)"),
		node(api.Eta, "(\\x:N . ($f:F(N, N) #0))"),
		node(api.EqIntro, "", a, b),
		node(api.EqElim, "", a, b),
		{Op: api.Instantiate, Inst: api.Inst{Types: []api.TypeBind{{Name: "a", To: typ("nat")}}, Terms: []api.TermBind{{Name: "x", Index: 3, To: of("$x:N")}}}, Kids: []api.Proof{a}},
		{Op: api.Generalize, TypeNames: []string{"a", "b"}, TermNames: []string{"x"}, Num: 4, Kids: []api.Proof{a}},
	}
}

// chain returns a proof with n nodes within each other.
func chain(n int) api.Proof {
	p := refl("$x:N")
	for range n - 1 {
		p = node(api.Symmetric, "", p)
	}
	return p
}

// double returns a proof with 2 to the power of n, less 1, nodes. Its parts share memory.
func double(n int) api.Proof {
	p := refl("$x:N")
	for range n - 1 {
		p = node(api.Transitive, "", p, p)
	}
	return p
}

// largest returns a proof with api.MaxProof nodes and so many more.
func largest(more int) api.Proof {
	p := double(20) // 1048575 nodes
	rest := api.MaxProof - (1<<20 - 1) - 1 + more
	q := refl("$x:N")
	have := 1
	for bit := 1 << 20; bit > 0; bit >>= 1 {
		if have*2+1 > rest {
			break
		}
		q = node(api.Transitive, "", q, q)
		have = have*2 + 1
	}
	for k := 19; k >= 1; k-- {
		for have+1<<k <= rest { // a double(k) and a Transitive
			q = node(api.Transitive, "", q, double(k))
			have += 1 << k
		}
	}
	for have < rest {
		q = node(api.Symmetric, "", q)
		have++
	}
	return node(api.Transitive, "", p, q)
}

// wide returns a term with n nodes (n odd) that is not deep.
func wide(n int) api.Term {
	if n == 1 {
		return of("$x:N")
	}
	left := (n - 1) / 2
	left -= 1 - left%2
	return api.Term{Op: api.App, Kids: []api.Term{wide(left), wide(n - 1 - left)}}
}

// deep returns a term with n nodes within each other.
func deep(n int) api.Term {
	t := of("$x:N")
	for range n - 1 {
		t = api.Term{Op: api.Abs, Type: typ("nat"), Kids: []api.Term{t}}
	}
	return t
}

func wideType(n int) api.Type {
	if n == 1 {
		return typ("nat")
	}
	left := (n - 1) / 2
	left -= 1 - left%2
	return types.Fun(wideType(left), wideType(n-1-left))
}

func deepType(n int) api.Type {
	t := typ("nat")
	for range n - 1 {
		t = api.Type{Op: api.TCon, Name: "list", Args: []api.Type{t}}
	}
	return t
}

func TestP51Check(t *testing.T) {
	fields := []func(*api.Proof){
		func(p *api.Proof) { p.Name = "a" },
		func(p *api.Proof) { p.Term = of("$x:N") },
		func(p *api.Proof) { p.Term = api.Term{Kids: []api.Term{{}}} },
		func(p *api.Proof) { p.Inst.Types = []api.TypeBind{{}} },
		func(p *api.Proof) { p.Inst.Terms = []api.TermBind{{}} },
		func(p *api.Proof) { p.TypeNames = []string{""} },
		func(p *api.Proof) { p.TermNames = []string{""} },
		func(p *api.Proof) { p.Num = -1 },
	}
	has := map[int]string{api.ByAxiom: "0", api.ByOracle: "012", api.Instantiate: "34", api.Generalize: "567"}
	for _, op := range []int{api.Assume, api.ImpIntro, api.AllIntro, api.AllElim, api.Reflexive, api.Abstraction, api.Beta, api.Eta} {
		has[op] = "12"
	}
	for op, p := range one() {
		if op == 0 {
			continue
		}
		if e := Check(p); e != api.OK {
			t.Error(op, e)
		}
		for i, change := range fields {
			q := one()[op]
			change(&q)
			want := api.ErrForm
			if strings.Contains(has[op], fmt.Sprint(i)) {
				want = api.OK
			}
			if e := Check(q); e != want {
				t.Error(op, i, e)
			}
		}
		more := one()[op]
		more.Kids = append(more.Kids, refl("$x:N"))
		if e := Check(more); e != api.ErrForm {
			t.Error(op, "more Kids", e)
		}
		if len(p.Kids) > 0 {
			p.Kids = p.Kids[1:]
			if e := Check(p); e != api.ErrForm {
				t.Error(op, "less Kids", e)
			}
		}
		empty := one()[op]
		if empty.Inst.Types == nil {
			empty.Inst = api.Inst{Types: []api.TypeBind{}, Terms: []api.TermBind{}}
		}
		if empty.Kids == nil {
			empty.Kids = []api.Proof{}
		}
		if empty.Num == 0 {
			empty.TypeNames, empty.TermNames = []string{}, []string{}
		}
		if op != api.ByOracle && len(has[op]) != 2 || op == api.Instantiate {
			empty.Term = api.Term{Type: api.Type{Sort: []string{}, Args: []api.Type{}}, Kids: []api.Term{}}
		}
		if e := Check(empty); e != api.OK {
			t.Error(op, "empty lists", e)
		}
	}
}

func TestP51CheckErrors(t *testing.T) {
	large := api.Proof{Op: api.Assume, Term: wide(20001)}
	full := api.Term{Op: api.Abs, Type: typ("nat"), Kids: []api.Term{wide(19999)}} // just as many nodes as may be
	fullType := api.Type{Op: api.TCon, Name: "list", Args: []api.Type{wideType(19999)}}
	for i, x := range []struct {
		p api.Proof
		e api.Errno
	}{
		{api.Proof{}, ErrKind}, {api.Proof{Op: 19}, ErrKind}, {api.Proof{Op: -1}, ErrKind}, {api.Proof{Op: math.MinInt}, ErrKind}, {api.Proof{Op: math.MaxInt}, ErrKind},
		{api.Proof{Name: "a", Num: 7, Kids: []api.Proof{{}}}, ErrKind},
		{node(api.Symmetric, "", api.Proof{}), ErrKind},
		{api.Proof{Op: api.Symmetric, Num: 1, Kids: []api.Proof{{}}}, api.ErrForm}, // a node ahead of its Kids
		{node(api.Transitive, "", node(api.Symmetric, ""), api.Proof{}), api.ErrForm},
		{node(api.Transitive, "", api.Proof{}, node(api.Symmetric, "")), ErrKind},
		{large, api.ErrLarge},
		{api.Proof{Op: api.Assume, Term: wide(19999)}, api.OK},
		{api.Proof{Op: api.Assume, Term: full}, api.OK},
		{inst(fullType, full), api.OK},
		{api.Proof{Op: api.Assume, Term: wide(20001), Num: 1}, api.ErrForm}, // the form ahead of the size
		{node(api.Transitive, "", large, api.Proof{}), api.ErrLarge},
		{node(api.Transitive, "", api.Proof{}, large), ErrKind},
		{api.Proof{Op: api.Assume, Term: deep(500)}, api.OK},
		{api.Proof{Op: api.Assume, Term: deep(501)}, api.ErrLarge},
		{api.Proof{Op: api.Assume, Term: api.Term{Op: 77, Num: -5, Kids: []api.Term{{}, {}}}}, api.OK}, // the form of terms plays no part
		{api.Proof{Op: api.Assume, Term: api.Term{Op: api.Free, Type: wideType(20001)}}, api.OK},       // nor the sizes of types in them
		{inst(wideType(19999), of("$x:N")), api.OK}, {inst(wideType(20001), of("$x:N")), api.ErrLarge},
		{inst(deepType(500), of("$x:N")), api.OK}, {inst(deepType(501), of("$x:N")), api.ErrLarge},
		{inst(typ("nat"), wide(19999)), api.OK}, {inst(typ("nat"), wide(20001)), api.ErrLarge}, {inst(typ("nat"), deep(501)), api.ErrLarge},
		{api.Proof{Op: api.ByAxiom, Name: "\xff"}, api.OK}, // nor do names
	} {
		if e := Check(x.p); e != x.e {
			t.Error(i, e, x.e)
		}
	}
}

// inst returns an Instantiate with a type and a term.
func inst(k api.Type, x api.Term) api.Proof {
	return api.Proof{Op: api.Instantiate, Inst: api.Inst{Types: []api.TypeBind{{Name: "a", To: k}}, Terms: []api.TermBind{{Name: "x", To: x}}}, Kids: []api.Proof{refl("$x:N")}}
}

func TestP51Limits(t *testing.T) {
	if n, d := Size(largest(0)); n != api.MaxProof || d > MaxNest {
		t.Fatal(n, d)
	}
	endless := double(62)
	for i, x := range []struct {
		p api.Proof
		e api.Errno
	}{
		{largest(0), api.OK}, {largest(1), api.ErrCount}, {endless, api.ErrCount},
		{chain(MaxNest), api.OK}, {chain(MaxNest + 1), api.ErrDepth},
		{node(api.Transitive, "", endless, chain(MaxNest)), api.ErrCount},
		{node(api.Transitive, "", api.Proof{}, chain(MaxNest)), api.ErrDepth}, // ahead of the nodes
	} {
		if e := Check(x.p); e != x.e {
			t.Error(i, e, x.e)
		}
	}
	for i, p := range []api.Proof{endless, chain(MaxNest + 1)} {
		want := []api.Errno{api.ErrCount, api.ErrDepth}[i]
		l, e1 := Lines(p)
		q, e2 := Shorter(p)
		s, e3 := Text(p)
		if e1 != want || e2 != want || e3 != want || l != nil || q.Op != 0 || s != "" {
			t.Error(i, e1, e2, e3)
		}
	}
}

func TestP51Walks(t *testing.T) {
	for i, x := range []struct {
		p    api.Proof
		n, d int
	}{{api.Proof{}, 1, 1}, {chain(7), 7, 7}, {double(4), 15, 4}, {node(api.Transitive, "", chain(3), chain(9)), 13, 10}, {api.Proof{Op: -3, Kids: []api.Proof{{}, {}, {}}}, 4, 2}} {
		if n, d := Size(x.p); n != x.n || d != x.d {
			t.Error(i, n, d)
		}
	}
	p := api.Proof{Op: 44, Name: "no", Kids: []api.Proof{
		{Op: api.ByAxiom, Name: "b", Kids: []api.Proof{{Op: api.ByAxiom, Name: "a"}, {Op: api.ByOracle, Name: "z"}}},
		{Op: api.ByOracle, Name: "\xff"}, {Op: api.ByAxiom, Name: "b"}, {Op: api.ByOracle, Name: ""}, {Op: api.Assume, Name: "c"},
	}}
	axioms, oracles := Names(p)
	if strings.Join(axioms, ",") != "a,b" || strings.Join(oracles, ",") != ",z,\xff" {
		t.Error(axioms, oracles)
	}
	if a, o := Names(chain(5)); len(a)+len(o) != 0 {
		t.Error(a, o)
	}
	want := [19]int{api.ByAxiom: 3, api.ByOracle: 3, api.Assume: 1}
	if c := Counts(p); c != want {
		t.Error(c)
	}
	if c := Counts(api.Proof{Kids: []api.Proof{{Op: 18}, {Op: 19}, {Op: -1}, {Op: math.MaxInt}}}); c != [19]int{0: 1, 18: 1} {
		t.Error(c)
	}
	if n, d := Size(chain(1 << 16)); n != 1<<16 || d != n || !Equal(chain(n), chain(n)) {
		t.Error(n, d)
	}
}

func TestP51Equal(t *testing.T) {
	l := one()
	for i, p := range l {
		for k, q := range l {
			if Equal(p, q) != (i == k) {
				t.Error(i, k)
			}
		}
	}
	a := api.Proof{Op: api.Assume, Term: of("(\\x:N . #0)")}
	b := api.Proof{Op: api.Assume, Term: of("(\\y:N . #0)")}
	if !Equal(a, b) || !Equal(inst(typ("nat"), a.Term), inst(typ("nat"), b.Term)) {
		t.Error("names of abstractions")
	}
	empty := api.Proof{Op: 9, Kids: []api.Proof{}, TypeNames: []string{}, TermNames: []string{}, Inst: api.Inst{Types: []api.TypeBind{}, Terms: []api.TermBind{}}}
	if !Equal(empty, api.Proof{Op: 9}) {
		t.Error("empty lists")
	}
	whole := api.Proof{Op: 30, Name: "n", Term: of("$x:N"), TypeNames: []string{"a"}, TermNames: []string{"b"}, Num: 4, Kids: []api.Proof{a, b}}
	whole.Inst = inst(typ("nat"), of("$x:N")).Inst
	for i, change := range []func(*api.Proof){
		func(p *api.Proof) { p.Op = 31 }, func(p *api.Proof) { p.Name = "m" }, func(p *api.Proof) { p.Term = of("$y:N") }, func(p *api.Proof) { p.TypeNames = []string{"b"} },
		func(p *api.Proof) { p.TermNames = nil }, func(p *api.Proof) { p.Num = 5 }, func(p *api.Proof) { p.Kids = p.Kids[:1] }, func(p *api.Proof) { p.Kids = []api.Proof{b, refl("$x:N")} },
		func(p *api.Proof) { p.Inst.Types = []api.TypeBind{{Name: "a", To: typ("prop")}} }, func(p *api.Proof) { p.Inst.Types = []api.TypeBind{{Name: "a", Index: 1, To: typ("nat")}} },
		func(p *api.Proof) { p.Inst.Types = nil }, func(p *api.Proof) { p.Inst.Terms = []api.TermBind{{Name: "y", To: of("$x:N")}} },
		func(p *api.Proof) { p.Inst.Terms = []api.TermBind{{Name: "x", Index: -1, To: of("$x:N")}} }, func(p *api.Proof) { p.Inst.Terms = []api.TermBind{{Name: "x", To: of("$x:P")}} },
	} {
		q := whole
		change(&q)
		if Equal(whole, q) || Equal(q, whole) || !Equal(q, q) {
			t.Error(i)
		}
	}
}

func TestP51Lines(t *testing.T) {
	p := assume("$A:P")
	l, e := Lines(node(api.Transitive, "", p, p))
	if e != api.OK || len(l) != 2 || !Equal(l[0].Node, p) || len(l[0].Kids) != 0 || !Equal(l[1].Node, api.Proof{Op: api.Transitive}) || !slices.Equal(l[1].Kids, []int{0, 0}) {
		t.Error(l, e)
	}
	// the first one of equal ones stands for all
	x, y := api.Proof{Op: api.Assume, Term: of("(\\x:N . #0)")}, api.Proof{Op: api.Assume, Term: of("(\\y:N . #0)")}
	l, e = Lines(node(api.ImpElim, "", node(api.Symmetric, "", x), node(api.Transitive, "", node(api.Symmetric, "", y), y)))
	if e != api.OK || len(l) != 4 || l[0].Node.Term.Name != "x" || fmt.Sprint(l[1].Kids, l[2].Kids, l[3].Kids) != "[0] [1 0] [1 2]" {
		t.Error(l, e)
	}
	if l, e := Lines(double(20)); e != api.OK || len(l) != 20 {
		t.Error(len(l), e)
	}
	if l, e := Lines(api.Proof{Op: 77}); e != ErrKind || l != nil {
		t.Error(l, e)
	}
	// what looks alike: lists and names that run into each other
	similar := []api.Proof{
		{Op: api.Generalize, TypeNames: []string{"a b"}, Kids: []api.Proof{p}}, {Op: api.Generalize, TypeNames: []string{"a", "b"}, Kids: []api.Proof{p}},
		{Op: api.Generalize, TermNames: []string{"a", "b"}, Kids: []api.Proof{p}}, {Op: api.Generalize, TypeNames: []string{"a"}, TermNames: []string{"b"}, Kids: []api.Proof{p}},
		{Op: api.Generalize, TypeNames: []string{"1 a", ""}, Kids: []api.Proof{p}}, {Op: api.Generalize, TypeNames: []string{"1 a"}, Kids: []api.Proof{p}},
		{Op: api.Assume, Term: api.Term{Op: 1, Name: "2 3"}}, {Op: api.Assume, Term: api.Term{Op: 1, Name: "2", Num: 3}}, {Op: api.Assume, Term: api.Term{Op: 1, Num: -3, Name: "2"}},
		{Op: api.Assume, Term: api.Term{Op: 1, Kids: []api.Term{{}, {}}}}, {Op: api.Assume, Term: api.Term{Op: 1, Kids: []api.Term{{Kids: []api.Term{{}}}}}},
		{Op: api.Assume, Term: api.Term{Op: 1, Type: api.Type{Sort: []string{"a"}}}}, {Op: api.Assume, Term: api.Term{Op: 1, Type: api.Type{Args: []api.Type{{Name: "a"}}}}},
	}
	whole := similar[0]
	for _, q := range similar[1:] {
		whole = node(api.ImpElim, "", whole, q)
	}
	if l, e := Lines(whole); e != api.OK || len(l) != 1+2*len(similar)-1 {
		t.Error(len(l), e, len(similar))
	}
}

func TestP51Join(t *testing.T) {
	leaf := Line{Node: refl("$x:N")}
	sym := Line{Node: api.Proof{Op: api.Symmetric}, Kids: []int{0}}
	trans := func(n int) Line { return Line{api.Proof{Op: api.Transitive}, []int{n, n}} }
	var doubling []Line
	doubling = append(doubling, leaf)
	for i := range 20 {
		doubling = append(doubling, trans(i))
	}
	long := []Line{leaf}
	for i := range MaxNest {
		long = append(long, Line{api.Proof{Op: api.Symmetric}, []int{i}})
	}
	for i, x := range []struct {
		l []Line
		e api.Errno
	}{
		{nil, api.ErrCount}, {[]Line{}, api.ErrCount}, {make([]Line, api.MaxProof+1), api.ErrCount},
		{[]Line{leaf}, api.OK}, {[]Line{leaf, sym}, api.OK}, {[]Line{leaf, leaf}, api.OK},
		{[]Line{sym}, ErrLine}, {[]Line{leaf, {sym.Node, []int{1}}}, ErrLine}, {[]Line{leaf, {sym.Node, []int{-1}}}, ErrLine}, {[]Line{leaf, {sym.Node, []int{math.MaxInt}}}, ErrLine},
		{[]Line{{chain(2), nil}, leaf}, api.ErrForm}, {[]Line{{chain(2), []int{7}}}, api.ErrForm},
		{[]Line{sym, {chain(2), nil}}, ErrLine}, {[]Line{{chain(2), nil}, sym}, api.ErrForm}, // line by line
		{[]Line{leaf, {leaf.Node, []int{0}}}, api.ErrForm}, {[]Line{leaf, {sym.Node, nil}}, api.ErrForm}, {[]Line{{}}, ErrKind}, {[]Line{leaf, {}, {sym.Node, []int{1}}}, ErrKind},
		{[]Line{{}, leaf}, api.OK}, // a line that is not used plays no part
		{doubling[:20], api.OK}, {doubling, api.ErrLarge}, {append(slices.Clone(doubling), sym), api.OK},
		{append(slices.Clone(doubling), Line{api.Proof{Op: 77}, []int{20}}), api.ErrLarge},
		{long[:MaxNest], api.OK}, {long, api.ErrDepth},
		{[]Line{{Node: api.Proof{Op: api.Assume, Term: wide(20001)}}}, api.ErrLarge},
	} {
		p, e := Join(x.l)
		if e != x.e || e != api.OK && !Equal(p, api.Proof{}) {
			t.Error(i, e, x.e)
		}
	}
	l, _ := Lines(largest(0))
	if p, e := Join(l); e != api.OK || !Equal(p, largest(0)) {
		t.Error("as many nodes as there may be", e)
	}
	if _, e := Join(append(l, Line{api.Proof{Op: api.Symmetric}, []int{len(l) - 1}})); e != api.ErrLarge {
		t.Error("one more", e)
	}
	most := make([]Line, api.MaxProof)
	most[api.MaxProof-1] = leaf
	if p, e := Join(most); e != api.OK || !Equal(p, leaf.Node) {
		t.Error("as many lines as there may be", e)
	}
	p, _ := Join(doubling[:20])
	if n, d := Size(p); n != 1<<20-1 || d != 20 {
		t.Error(n, d)
	}
	// a line that is used very often, of a term that is too large
	if _, e := Join(append([]Line{{Node: api.Proof{Op: api.Assume, Term: deep(501)}}}, doubling[1:15]...)); e != api.ErrLarge {
		t.Error(e)
	}
}

func TestP51Shorter(t *testing.T) {
	p, r, s, x := assume("$A:P"), refl("$y:N"), refl("$z:N"), "$x:N"
	sym := func(q api.Proof) api.Proof { return node(api.Symmetric, "", q) }
	two := func(op int, a, b api.Proof) api.Proof { return node(op, "", a, b) }
	app, abs := refl("($f:F(N, N) $x:N)"), refl("(\\x:N . ($f:F(N, N) #0))")
	f := refl("$f:F(N, N)")
	empty, gen := api.Proof{Op: api.Instantiate, Kids: []api.Proof{p}}, api.Proof{Op: api.Generalize, Num: 3, Kids: []api.Proof{p}}
	bound := node(api.AllIntro, "$x:N", p)
	for i, c := range []struct{ p, want api.Proof }{
		{p, p}, {sym(p), sym(p)}, {sym(sym(p)), p}, {sym(sym(sym(p))), sym(p)}, {sym(r), r}, {sym(sym(r)), r},
		{two(api.Transitive, r, p), p}, {two(api.Transitive, p, r), p}, {two(api.Transitive, r, s), s}, {two(api.Transitive, s, r), r}, {two(api.Transitive, p, p), two(api.Transitive, p, p)},
		{two(api.EqElim, r, p), p}, {two(api.EqElim, r, s), s}, {two(api.EqElim, p, r), two(api.EqElim, p, r)},
		{empty, p}, {gen, p}, {inst(typ("nat"), of("$x:N")), inst(typ("nat"), of("$x:N"))}, {one()[api.Generalize], one()[api.Generalize]},
		{api.Proof{Op: api.Instantiate, Inst: api.Inst{Types: []api.TypeBind{{}}}, Kids: []api.Proof{p}}, api.Proof{Op: api.Instantiate, Inst: api.Inst{Types: []api.TypeBind{{}}}, Kids: []api.Proof{p}}},
		{api.Proof{Op: api.Generalize, TermNames: []string{"x"}, Kids: []api.Proof{p}}, api.Proof{Op: api.Generalize, TermNames: []string{"x"}, Kids: []api.Proof{p}}},
		{two(api.Combination, f, refl(x)), app}, {two(api.Combination, p, r), two(api.Combination, p, r)}, {two(api.Combination, r, p), two(api.Combination, r, p)},
		{node(api.Abstraction, x, app), abs}, {node(api.Abstraction, "?x.0:N", app), node(api.Abstraction, "?x.0:N", app)}, {node(api.Abstraction, x, p), node(api.Abstraction, x, p)},
		{node(api.Abstraction, x, two(api.Combination, f, sym(refl(x)))), abs},
		{node(api.AllElim, x, bound), p}, {node(api.AllElim, "$y:N", bound), node(api.AllElim, "$y:N", bound)}, {node(api.AllElim, "$x:P", bound), node(api.AllElim, "$x:P", bound)},
		{node(api.AllElim, "?x.0:N", node(api.AllIntro, "?x.0:N", p)), node(api.AllElim, "?x.0:N", node(api.AllIntro, "?x.0:N", p))}, // no Frees
		{node(api.AllElim, x, p), node(api.AllElim, x, p)}, {node(api.AllIntro, x, node(api.AllElim, x, p)), node(api.AllIntro, x, node(api.AllElim, x, p))},
		{two(api.Transitive, sym(sym(r)), two(api.EqElim, two(api.Transitive, r, s), sym(p))), sym(p)},
		{two(api.ImpElim, sym(r), gen), two(api.ImpElim, r, p)},
	} {
		q, e := Shorter(c.p)
		if e != api.OK || !Equal(q, c.want) {
			a, _ := Text(q)
			b, _ := Text(c.want)
			t.Error(i, a, b, e)
		}
	}
	if q, _ := Shorter(node(api.Abstraction, x, app)); q.Term.Name != "x" {
		t.Error("the name of the abstraction", q.Term.Name)
	}
	if q, e := Shorter(api.Proof{}); e != ErrKind || q.Op != 0 {
		t.Error(e)
	}
	if q, e := Shorter(chain(MaxNest)); e != api.OK || !Equal(q, refl(x)) {
		t.Error(e)
	}
	if q, e := Shorter(double(19)); e != api.OK || !Equal(q, refl(x)) {
		t.Error(e)
	}
}
