package pattern

import (
	"cmp"
	"slices"

	"triforium/api"
	"triforium/term"
	"triforium/types"
)

// naive is the algorithm of the document, word by word: whatever is bound is put into all that there is at once.
type naive struct {
	thy  api.Theory
	next int
	inst api.Inst
}

func (n *naive) put(more api.Inst) {
	for i, b := range n.inst.Types {
		n.inst.Types[i].To = types.Apply(more.Types, b.To)
	}
	for i, b := range n.inst.Terms {
		n.inst.Terms[i].To = n.norm(term.Apply(more, b.To))
	}
	n.inst.Types = append(n.inst.Types, more.Types...)
	n.inst.Terms = append(n.inst.Terms, more.Terms...)
	for _, b := range n.inst.Terms {
		if nodes, depth := term.Size(b.To); nodes > api.MaxTerm || depth > api.MaxDepth {
			panic(api.ErrLarge)
		}
	}
}

func (n *naive) norm(t api.Term) api.Term {
	out, e := term.NormWithin(t, 1<<30, 1<<30, 1<<30)
	if e != api.OK {
		panic(e)
	}
	return out
}

func (n *naive) types(a, b api.Type) {
	a, b = types.Apply(n.inst.Types, a), types.Apply(n.inst.Types, b)
	l, e := types.Unify(n.thy, a, b)
	if e != api.OK {
		panic(api.ErrFail)
	}
	least := max(types.MaxIndex(a), types.MaxIndex(b)) + 1
	by := n.next - least
	now := func(i int) int {
		if i < least {
			return i
		}
		n.next = max(n.next, i+by+1)
		return i + by
	}
	var shift func(t api.Type) api.Type
	shift = func(t api.Type) api.Type {
		if t.Op == api.TVar {
			t.Index = now(t.Index)
		}
		t.Args = slices.Clone(t.Args)
		for i := range t.Args {
			t.Args[i] = shift(t.Args[i])
		}
		return t
	}
	for i := range l {
		l[i].Index = now(l[i].Index)
		l[i].To = shift(l[i].To)
	}
	n.put(api.Inst{Types: l})
}

func (n *naive) bind(v, to api.Term) {
	n.put(api.Inst{Terms: []api.TermBind{{Name: v.Name, Index: v.Num, To: to}}})
}

func (n *naive) fresh(args []api.Type, result api.Type) api.Term {
	for i := len(args) - 1; i >= 0; i-- {
		result = types.Fun(args[i], result)
	}
	n.next++
	return api.Term{Op: api.Var, Name: "H", Num: n.next - 1, Type: result}
}

// function returns \x1 .. xn. of a body for the arguments of a variable, whose types those of its type are.
func (n *naive) function(v api.Term, args int, body api.Term) api.Term {
	l, _ := types.Strip(types.Apply(n.inst.Types, v.Type))
	for i := args - 1; i >= 0; i-- {
		body = api.Term{Op: api.Abs, Name: "x", Type: l[i], Kids: []api.Term{body}}
	}
	return body
}

// choose binds v to the function of h at the arguments that are kept.
func (n *naive) choose(v api.Term, args int, h api.Term, kept []int) {
	body := h
	for _, k := range kept {
		body = term.Apps(body, []api.Term{bound(args - 1 - k)})
	}
	n.bind(v, n.function(v, args, body))
}

func (n *naive) freshFor(v api.Term, args int, kept []int) api.Term {
	l, r := types.Strip(types.Apply(n.inst.Types, v.Type))
	for i := len(l) - 1; i >= args; i-- {
		r = types.Fun(l[i], r)
	}
	var of []api.Type
	for _, k := range kept {
		of = append(of, l[k])
	}
	return n.fresh(of, r)
}

func (n *naive) now(t api.Term) api.Term { return n.norm(term.Apply(n.inst, t)) }

func (n *naive) unify(a, b api.Term) {
	a, b = n.now(a), n.now(b)
	if a.Op == api.Abs || b.Op == api.Abs {
		body := func(t api.Term) api.Term {
			if t.Op == api.Abs {
				return t.Kids[0]
			}
			return term.Apps(term.Lift(t, 1), []api.Term{bound(0)})
		}
		n.unify(body(a), body(b))
		return
	}
	f, xs := term.Spine(a)
	g, ys := term.Spine(b)
	switch {
	case f.Op == api.Var && g.Op == api.Var && f.Name == g.Name && f.Num == g.Num:
		var kept []int
		for i := range xs {
			if xs[i].Num == ys[i].Num {
				kept = append(kept, i)
			}
		}
		if len(kept) < len(xs) {
			n.choose(f, len(xs), n.freshFor(f, len(xs), kept), kept)
		}
	case f.Op == api.Var && g.Op == api.Var:
		var left, right []int
		for i := range xs {
			for k := range ys {
				if xs[i].Num == ys[k].Num {
					left, right = append(left, i), append(right, k)
				}
			}
		}
		h := n.freshFor(f, len(xs), left)
		n.choose(f, len(xs), h, left)
		n.choose(g, len(ys), h, right)
	case f.Op == api.Var:
		n.solve(f, xs, b)
	case g.Op == api.Var:
		n.solve(g, ys, a)
	default:
		if f.Op != g.Op || f.Name != g.Name || f.Num != g.Num || len(xs) != len(ys) {
			panic(api.ErrFail)
		}
		if f.Op == api.Const {
			n.types(f.Type, g.Type)
		}
		for i := range xs {
			n.unify(xs[i], ys[i])
		}
	}
}

func has(xs []api.Term, k int) bool {
	return slices.ContainsFunc(xs, func(x api.Term) bool { return x.Num == k })
}

func (n *naive) solve(f api.Term, xs []api.Term, t api.Term) {
	for _, v := range term.Vars(t) {
		if v.Name == f.Name && v.Num == f.Num {
			panic(api.ErrFail)
		}
	}
	for {
		// the first application of a variable to a bound variable that is loose, and none of xs
		var find func(t api.Term, around int) (api.Term, int, []int, bool)
		find = func(t api.Term, around int) (api.Term, int, []int, bool) {
			g, ys := term.Spine(t)
			if g.Op == api.Var {
				var kept []int
				for i, y := range ys {
					if y.Num < around || has(xs, y.Num-around) {
						kept = append(kept, i)
					}
				}
				return g, len(ys), kept, len(kept) < len(ys)
			}
			if t.Op == api.Abs {
				around++
			}
			for _, k := range t.Kids {
				if g, m, kept, ok := find(k, around); ok {
					return g, m, kept, true
				}
			}
			return api.Term{}, 0, nil, false
		}
		g, m, kept, ok := find(t, 0)
		if !ok {
			break
		}
		n.choose(g, m, n.freshFor(g, m, kept), kept)
		t = n.now(t)
	}
	var body func(t api.Term, around int) api.Term
	body = func(t api.Term, around int) api.Term {
		if t.Op == api.Bound && t.Num >= around {
			i := slices.IndexFunc(xs, func(x api.Term) bool { return x.Num == t.Num-around })
			if i < 0 {
				panic(api.ErrFail)
			}
			t.Num = len(xs) - 1 - i + around
		}
		if t.Op == api.Abs {
			around++
		}
		t.Kids = slices.Clone(t.Kids)
		for i := range t.Kids {
			t.Kids[i] = body(t.Kids[i], around)
		}
		return t
	}
	n.bind(f, n.function(f, len(xs), body(t, 0)))
}

// naiveUnify is Unify of right patterns.
func naiveUnify(thy api.Theory, l []Pair) (out api.Inst, err api.Errno) {
	defer func() {
		if r := recover(); r != nil {
			out, err = api.Inst{}, r.(api.Errno)
		}
	}()
	n := &naive{thy: thy}
	var vars []api.Term
	for _, p := range l {
		n.next = max(n.next, term.MaxIndex(p.A)+1, term.MaxIndex(p.B)+1)
		vars = append(append(vars, term.Vars(p.A)...), term.Vars(p.B)...)
	}
	for _, p := range l {
		a, _ := term.TypeOf(p.A)
		b, _ := term.TypeOf(p.B)
		n.types(a, b)
	}
	for _, p := range l {
		n.unify(p.A, p.B)
	}
	out.Types = n.inst.Types
	for _, b := range n.inst.Terms {
		if slices.ContainsFunc(vars, func(v api.Term) bool { return v.Name == b.Name && v.Num == b.Index }) {
			b.To = term.Apply(api.Inst{Types: n.inst.Types}, b.To)
			out.Terms = append(out.Terms, b)
		}
	}
	slices.SortFunc(out.Types, func(a, b api.TypeBind) int { return cmp.Or(cmp.Compare(a.Name, b.Name), cmp.Compare(a.Index, b.Index)) })
	slices.SortFunc(out.Terms, func(a, b api.TermBind) int { return cmp.Or(cmp.Compare(a.Name, b.Name), cmp.Compare(a.Index, b.Index)) })
	return out, api.OK
}
