package infer

import (
	"fmt"
	"math/rand"
	"slices"

	"triforium/api"
	"triforium/sort"
	"triforium/term"
	"triforium/theory"
	"triforium/types"
)

// What the document says of inference, word by word: TVars of given types are replaced by TFrees ahead of it; types.Unify binds the others, pair by pair; the binds are put together here.

type naive struct {
	g     sort.Signature
	thy   api.Theory
	next  int
	binds []api.TypeBind
	names map[string]api.Type
	known []Known
}

// stopped is the error with which a naive inference ends.
type stopped api.Errno

// fixed returns a type whose TVars are TFrees, with names that no other one has.
func fixed(t api.Type) api.Type {
	if t.Op == api.TVar {
		t = api.Type{Op: api.TFree, Name: fmt.Sprintf("Q%d.%s", t.Index, t.Name), Sort: t.Sort}
	}
	args := slices.Clone(t.Args)
	for i := range args {
		args[i] = fixed(args[i])
	}
	t.Args = args
	return t
}

// loose undoes fixed.
func loose(t api.Type) api.Type {
	var name string
	if n, _ := fmt.Sscanf(t.Name, "Q%d.%s", &t.Index, &name); n == 2 {
		t.Op, t.Name = api.TVar, name
	} else {
		t.Index = 0
	}
	args := slices.Clone(t.Args)
	for i := range args {
		args[i] = loose(args[i])
	}
	t.Args = args
	return t
}

func (n *naive) fresh(s []string) api.Type {
	n.next++
	return api.Type{Op: api.TVar, Name: "v", Index: n.next - 1, Sort: s}
}

func (n *naive) must(a, b api.Type) {
	a, b = types.Apply(n.binds, a), types.Apply(n.binds, b)
	l, next, e := types.UnifyIn(n.g, a, b, n.next)
	switch e {
	case api.OK:
	case api.ErrFail, types.ErrOccurs:
		panic(stopped(api.ErrType))
	default:
		panic(stopped(e))
	}
	n.next = next
	for i := range n.binds {
		n.binds[i].To = types.Apply(l, n.binds[i].To)
		if k, _ := types.Size(n.binds[i].To); k > 2000 {
			panic(stopped(api.ErrLarge))
		}
	}
	n.binds = append(n.binds, l...)
}

// named returns the one type of a name.
func (n *naive) named(t api.Term) api.Type {
	if t.Op == api.Free {
		for _, k := range n.known {
			if k.Name == t.Name {
				return fixed(k.Type)
			}
		}
	}
	k := fmt.Sprint(t.Op, t.Name, t.Num)
	if _, ok := n.names[k]; !ok {
		n.names[k] = n.fresh(nil)
	}
	return n.names[k]
}

func (n *naive) instance(name string) api.Type {
	declared, ok := theory.Const(n.thy, name)
	if !ok {
		panic(stopped(ErrUnknown))
	}
	var l []api.TypeBind
	for _, v := range types.Variables(declared) {
		l = append(l, api.TypeBind{Name: v.Name, Index: v.Index, To: n.fresh(v.Sort)})
	}
	return types.Apply(l, declared)
}

// walk returns a raw term with types that have variables, without constraints, and its type.
func (n *naive) walk(t api.Term, around []api.Type) (api.Term, api.Type) {
	own, open := fixed(t.Type), isOpen(t.Type)
	switch t.Op {
	case api.Const:
		k := n.instance(t.Name)
		if open {
			own = k
		} else {
			n.must(k, own)
		}
		return api.Term{Op: t.Op, Name: t.Name, Type: own}, own
	case api.Free, api.Var:
		if open {
			own = n.named(t)
		}
		return api.Term{Op: t.Op, Name: t.Name, Num: t.Num, Type: own}, own
	case api.Bound:
		return t, around[t.Num]
	case api.Abs:
		if open {
			own = n.fresh(nil)
		}
		body, k := n.walk(t.Kids[0], append([]api.Type{own}, around...))
		return api.Term{Op: t.Op, Name: t.Name, Type: own, Kids: []api.Term{body}}, types.Fun(own, k)
	case api.App:
		f, fk := n.walk(t.Kids[0], around)
		a, ak := n.walk(t.Kids[1], around)
		r := n.fresh(nil)
		n.must(fk, types.Fun(ak, r))
		return api.Term{Op: t.Op, Kids: []api.Term{f, a}}, r
	}
	kid, k := n.walk(t.Kids[0], around)
	n.must(k, own)
	return kid, k
}

func naiveTerms(thy api.Theory, known []Known, raws []api.Term, want []api.Type) (out []api.Term, err api.Errno) {
	if e := theory.Check(thy); e != api.OK {
		return nil, e
	}
	if len(known) > 60 || len(raws) > 20 {
		return nil, api.ErrCount
	}
	if len(raws) != len(want) {
		return nil, api.ErrArgument
	}
	for _, t := range raws {
		if e := Form(t); e != api.OK {
			return nil, e
		}
	}
	all, e := naiveGiven(thy, known, raws, want)
	if e != api.OK {
		return nil, e
	}
	defer func() {
		if r := recover(); r != nil {
			out, err = nil, api.Errno(r.(stopped))
		}
	}()
	g, _ := sort.Sign(thy)
	n := &naive{g: g, thy: thy, names: map[string]api.Type{}, known: known}
	for i, t := range raws {
		x, k := n.walk(t, nil)
		if !isOpen(want[i]) {
			n.must(k, fixed(want[i]))
		}
		out = append(out, x)
	}
	for i := range out {
		out[i] = term.Apply(api.Inst{Types: n.binds}, out[i])
	}
	out = nameAll(out, all)
	for i := range out {
		out[i] = looseTerm(out[i])
		if _, e := term.Check(thy, out[i]); e != api.OK {
			return nil, e
		}
	}
	return out, api.OK
}

// naiveGiven returns the given types, or their error.
func naiveGiven(thy api.Theory, known []Known, raws []api.Term, want []api.Type) ([]api.Type, api.Errno) {
	var all []api.Type
	for _, k := range known {
		all = append(all, k.Type)
	}
	for _, t := range raws {
		for n := range term.Nodes(t) {
			if !isOpen(n.Type) {
				all = append(all, n.Type)
			}
		}
	}
	for _, t := range want {
		if !isOpen(t) {
			all = append(all, t)
		}
	}
	for _, t := range all {
		if e := types.Check(thy, t); e != api.OK {
			return nil, e
		}
	}
	for _, t := range all {
		for _, v := range types.Variables(t) {
			for _, u := range all {
				for _, w := range types.Variables(u) {
					if v.Op == w.Op && v.Name == w.Name && v.Index == w.Index && !types.Equal(v, w) {
						return nil, api.ErrSort
					}
				}
			}
		}
	}
	return all, api.OK
}

// nameAll makes TFrees of the variables that are left.
func nameAll(l []api.Term, given []api.Type) []api.Term {
	taken := map[string]bool{}
	for _, t := range given {
		for _, v := range types.Variables(t) {
			if v.Op == api.TFree {
				taken[v.Name] = true
			}
		}
	}
	var binds []api.TypeBind
	number := 0
	for _, t := range l {
		for _, v := range term.TypeVariables(t) {
			if v.Op != api.TVar || slices.ContainsFunc(binds, func(b api.TypeBind) bool { return b.Name == v.Name && b.Index == v.Index }) {
				continue
			}
			name := ""
			for name == "" || taken[name] {
				name = string(rune('a' + number%26))
				if number >= 26 {
					name += fmt.Sprint(number / 26)
				}
				number++
			}
			binds = append(binds, api.TypeBind{Name: v.Name, Index: v.Index, To: api.Type{Op: api.TFree, Name: name, Sort: v.Sort}})
		}
	}
	out := slices.Clone(l)
	for i := range out {
		out[i] = term.Apply(api.Inst{Types: binds}, out[i])
	}
	return out
}

func looseTerm(t api.Term) api.Term {
	t.Type = loose(t.Type)
	kids := slices.Clone(t.Kids)
	for i := range kids {
		kids[i] = looseTerm(kids[i])
	}
	t.Kids = kids
	return t
}

// naivePinned takes the types away as the document says, by Term.
func naivePinned(thy api.Theory, known []Known, t api.Term) (api.Term, api.Errno) {
	if _, e := term.Check(thy, t); e != api.OK {
		return api.Term{}, e
	}
	if u, e := Term(thy, known, t, api.Type{}); e != api.OK || !term.Equal(t, u) {
		if e == api.OK {
			e = api.ErrType
		}
		return api.Term{}, e
	}
	out := term.Copy(t)
	var lose func(n *api.Term)
	lose = func(n *api.Term) {
		if !isOpen(n.Type) {
			old := n.Type
			n.Type = api.Type{}
			if u, e := Term(thy, known, out, api.Type{}); e != api.OK || !term.Equal(t, u) {
				n.Type = old
			}
		}
		for i := range n.Kids {
			lose(&n.Kids[i])
		}
	}
	lose(&out)
	return out, api.OK
}

// gen makes random raw terms.
type gen struct {
	*rand.Rand
	thy api.Theory
}

func newGen(seed int) gen { return gen{Rand: rand.New(rand.NewSource(int64(seed)))} }

func (g gen) pick(l ...string) string { return l[g.Intn(len(l))] }

func (g gen) typ(depth int) api.Type {
	if depth > 0 && g.Intn(2) == 0 {
		switch g.Intn(3) {
		case 0:
			return types.Fun(g.typ(depth-1), g.typ(depth-1))
		case 1:
			return api.Type{Op: api.TCon, Name: "list", Args: []api.Type{g.typ(depth - 1)}}
		}
		return api.Type{Op: api.TCon, Name: "pair", Args: []api.Type{g.typ(depth - 1), g.typ(depth - 1)}}
	}
	if g.Intn(150) == 0 {
		return of(g.pick("'a{d}", "set", "list(nat, nat)", "'x{c,e}", "'x{k}"))
	}
	return of(g.pick("nat", "nat", "bool", "prop", "'a", "'b", "'c{c}", "?a.0", "?b.1{e}", "'d{c,d}"))
}

// raw returns a raw term within some abstractions.
func (g gen) raw(around, depth int) api.Term {
	t := api.Term{}
	if g.Intn(8) == 0 {
		t.Type = g.typ(2)
	}
	if depth == 0 || g.Intn(5) == 0 {
		switch k := g.Intn(8); {
		case k < 3 && around > 0:
			return api.Term{Op: api.Bound, Num: g.Intn(around)}
		case k < 5:
			t.Op, t.Name = api.Free, g.pick("x", "y", "f")
		case k < 6:
			t.Op, t.Name, t.Num = api.Var, g.pick("x", "g"), g.Intn(2)
		default:
			t.Op, t.Name = api.Const, g.pick("zero", "suc", "true", "nil", "cons", "id", "least", "dee", "same", "mk", "any", "eq", "all")
			if g.Intn(60) == 0 {
				t.Name = "none"
			}
		}
		return t
	}
	switch g.Intn(9) {
	case 0, 1:
		t.Op, t.Name, t.Kids = api.Abs, g.pick("x", "y", ""), []api.Term{g.raw(around+1, depth-1)}
		return t
	case 2:
		return api.Term{Op: Constraint, Type: g.typ(2), Kids: []api.Term{g.raw(around, depth-1)}}
	}
	return api.Term{Op: api.App, Kids: []api.Term{g.raw(around, depth-1), g.raw(around, depth-1)}}
}

func (g gen) known() []Known {
	var l []Known
	for range g.Intn(3) {
		l = append(l, Known{g.pick("x", "y", "f", "zero"), g.typ(2)})
	}
	return l
}

// right returns a right term of a type, within abstractions of some types, the outermost one first.
func (g gen) right(t api.Type, around []api.Type, depth int) api.Term {
	for range 3 {
		if len(around) > 0 {
			if i := g.Intn(len(around)); types.Equal(around[i], t) {
				return api.Term{Op: api.Bound, Num: len(around) - 1 - i}
			}
		}
	}
	if depth > 0 {
		if types.IsFun(t) && g.Intn(2) == 0 {
			return api.Term{Op: api.Abs, Name: "x", Type: t.Args[0], Kids: []api.Term{g.right(t.Args[1], append(around, t.Args[0]), depth-1)}}
		}
		if g.Intn(3) > 0 {
			a := g.typ(1)
			return api.Term{Op: api.App, Kids: []api.Term{g.right(types.Fun(a, t), around, depth-1), g.right(a, around, depth-1)}}
		}
	}
	var fit []api.Term
	for _, c := range g.thy.Consts {
		if _, e := types.Match(g.thy, c.Type, t, nil); e == api.OK {
			fit = append(fit, api.Term{Op: api.Const, Name: c.Name, Type: t})
		}
	}
	if len(fit) > 1 && g.Intn(2) == 0 {
		return fit[g.Intn(len(fit))]
	}
	name, _ := types.Text(t)
	return api.Term{Op: api.Free, Name: "v" + fmt.Sprint(slices.Index(g.names(), name)), Type: t}
}

// names returns texts of types: variables are named by their places, so that each one has one type. Those that do not stand there are one name, and most often wrong.
func (g gen) names() []string {
	return []string{"nat", "bool", "prop", "'a", "'b", "'c{c}", "?a.0", "?b.1{e}", "'d{c,d}"}
}
