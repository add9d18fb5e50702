package unify

import (
	"cmp"
	"slices"

	"triforium/api"
	"triforium/pattern"
	"triforium/term"
	"triforium/types"
)

// naive is the algorithm of the document, word by word: whatever is bound is put into all that there is at once.
type naive struct {
	thy  api.Theory
	next int
	inst api.Inst
}

func (n *naive) put(more api.Inst) {
	for i, b := range n.inst.Types {
		n.inst.Types[i].To = types.Apply(more.Types, b.To)
	}
	for i, b := range n.inst.Terms {
		n.inst.Terms[i].To = n.norm(term.Apply(more, b.To))
	}
	n.inst.Types = append(n.inst.Types, more.Types...)
	n.inst.Terms = append(n.inst.Terms, more.Terms...)
	for _, b := range n.inst.Terms {
		if nodes, depth := term.Size(b.To); nodes > api.MaxTerm || depth > api.MaxDepth {
			panic(api.ErrLarge)
		}
	}
}

func (n *naive) norm(t api.Term) api.Term {
	out, e := term.NormWithin(t, 3000, 4000, 1<<30)
	if e != api.OK {
		panic(beyond{})
	}
	return out
}

// beyond is what is too much to be made at once.
type beyond struct{}

func (n *naive) types(a, b api.Type) {
	a, b = types.Apply(n.inst.Types, a), types.Apply(n.inst.Types, b)
	l, e := types.Unify(n.thy, a, b)
	if e != api.OK {
		panic(api.ErrFail)
	}
	least := max(types.MaxIndex(a), types.MaxIndex(b)) + 1
	by := n.next - least
	now := func(i int) int {
		if i < least {
			return i
		}
		n.next = max(n.next, i+by+1)
		return i + by
	}
	var shift func(t api.Type) api.Type
	shift = func(t api.Type) api.Type {
		if t.Op == api.TVar {
			t.Index = now(t.Index)
		}
		t.Args = slices.Clone(t.Args)
		for i := range t.Args {
			t.Args[i] = shift(t.Args[i])
		}
		return t
	}
	for i := range l {
		l[i].Index = now(l[i].Index)
		l[i].To = shift(l[i].To)
	}
	n.put(api.Inst{Types: l})
}

func (n *naive) bind(v, to api.Term) {
	n.put(api.Inst{Terms: []api.TermBind{{Name: v.Name, Index: v.Num, To: to}}})
}

func (n *naive) fresh(args []api.Type, result api.Type) api.Term {
	for i := len(args) - 1; i >= 0; i-- {
		result = types.Fun(args[i], result)
	}
	n.next++
	return api.Term{Op: api.Var, Name: "H", Num: n.next - 1, Type: result}
}

// function returns \x1 .. xn. of a body for the arguments of a variable, whose types those of its type are.
func (n *naive) function(v api.Term, args int, body api.Term) api.Term {
	l, _ := types.Strip(types.Apply(n.inst.Types, v.Type))
	for i := args - 1; i >= 0; i-- {
		body = api.Term{Op: api.Abs, Name: "x", Type: l[i], Kids: []api.Term{body}}
	}
	return body
}

// choose binds v to the function of h at the arguments that are kept.
func (n *naive) choose(v api.Term, args int, h api.Term, kept []int) {
	body := h
	for _, k := range kept {
		body = term.Apps(body, []api.Term{bound(args - 1 - k)})
	}
	n.bind(v, n.function(v, args, body))
}

func (n *naive) freshFor(v api.Term, args int, kept []int) api.Term {
	l, r := types.Strip(types.Apply(n.inst.Types, v.Type))
	for i := len(l) - 1; i >= args; i-- {
		r = types.Fun(l[i], r)
	}
	var of []api.Type
	for _, k := range kept {
		of = append(of, l[k])
	}
	return n.fresh(of, r)
}

func (n *naive) now(t api.Term) api.Term { return n.norm(term.Apply(n.inst, t)) }

// flexible is what is done with two flexible terms that are patterns; it reports whether a variable was bound.
func (n *naive) flexible(a, b api.Term) bool {
	f, xs := term.Spine(a)
	g, ys := term.Spine(b)
	var left, right []int
	if f.Name == g.Name && f.Num == g.Num {
		for i := range xs {
			if xs[i].Num == ys[i].Num {
				left = append(left, i)
			}
		}
		if len(left) < len(xs) {
			n.choose(f, len(xs), n.freshFor(f, len(xs), left), left)
		}
		return len(left) < len(xs)
	}
	for i := range xs {
		for k := range ys {
			if xs[i].Num == ys[k].Num {
				left, right = append(left, i), append(right, k)
			}
		}
	}
	h := n.freshFor(f, len(xs), left)
	n.choose(f, len(xs), h, left)
	n.choose(g, len(ys), h, right)
	return true
}

func has(xs []api.Term, k int) bool {
	return slices.ContainsFunc(xs, func(x api.Term) bool { return x.Num == k })
}

func (n *naive) solve(f api.Term, xs []api.Term, t api.Term) {
	for _, v := range term.Vars(t) {
		if v.Name == f.Name && v.Num == f.Num {
			panic(api.ErrFail)
		}
	}
	for {
		// the first application of a variable to a bound variable that is loose, and none of xs
		var find func(t api.Term, around int) (api.Term, int, []int, bool)
		find = func(t api.Term, around int) (api.Term, int, []int, bool) {
			g, ys := term.Spine(t)
			if g.Op == api.Var {
				var kept []int
				for i, y := range ys {
					if y.Num < around || has(xs, y.Num-around) {
						kept = append(kept, i)
					}
				}
				return g, len(ys), kept, len(kept) < len(ys)
			}
			if t.Op == api.Abs {
				around++
			}
			for _, k := range t.Kids {
				if g, m, kept, ok := find(k, around); ok {
					return g, m, kept, true
				}
			}
			return api.Term{}, 0, nil, false
		}
		g, m, kept, ok := find(t, 0)
		if !ok {
			break
		}
		n.choose(g, m, n.freshFor(g, m, kept), kept)
		t = n.now(t)
	}
	var body func(t api.Term, around int) api.Term
	body = func(t api.Term, around int) api.Term {
		if t.Op == api.Bound && t.Num >= around {
			i := slices.IndexFunc(xs, func(x api.Term) bool { return x.Num == t.Num-around })
			if i < 0 {
				panic(api.ErrFail)
			}
			t.Num = len(xs) - 1 - i + around
		}
		if t.Op == api.Abs {
			around++
		}
		t.Kids = slices.Clone(t.Kids)
		for i := range t.Kids {
			t.Kids[i] = body(t.Kids[i], around)
		}
		return t
	}
	n.bind(f, n.function(f, len(xs), body(t, 0)))
}

func isFlex(t api.Term) bool {
	f, _ := term.Spine(t)
	return f.Op == api.Var
}

// simplify is what the document says, word by word; it panics with a failure.
func (n *naive) simplify(todo []naivePair) []naivePair {
	var left []naivePair
	for len(todo) > 0 {
		if len(todo)+len(left) > MaxPairs {
			panic(api.ErrFail)
		}
		p := todo[0]
		todo = todo[1:]
		a, b := n.now(p.a), n.now(p.b)
		bound1 := false
		switch {
		case a.Op == api.Abs || b.Op == api.Abs:
			body := func(t api.Term) api.Term {
				if t.Op == api.Abs {
					return t.Kids[0]
				}
				return term.Apps(term.Lift(t, 1), []api.Term{bound(0)})
			}
			k := a.Type
			if a.Op != api.Abs {
				k = b.Type
			}
			todo = slices.Concat([]naivePair{{slices.Concat(p.around, []api.Type{k}), body(a), body(b)}}, todo)
		case !isFlex(a) && !isFlex(b):
			f, xs := term.Spine(a)
			g, ys := term.Spine(b)
			if f.Op != g.Op || f.Name != g.Name || f.Num != g.Num || len(xs) != len(ys) {
				panic(api.ErrFail)
			}
			if f.Op == api.Const {
				n.types(f.Type, g.Type)
			}
			var l []naivePair
			for i := range xs {
				l = append(l, naivePair{p.around, xs[i], ys[i]})
			}
			todo = slices.Concat(l, todo)
		case isFlex(a) && isFlex(b) && pattern.Is(a) && pattern.Is(b):
			bound1 = n.flexible(a, b)
		case isFlex(a) && !isFlex(b) && pattern.Is(a) && pattern.Is(b):
			f, xs := term.Spine(a)
			n.solve(f, xs, b)
			bound1 = true
		case isFlex(b) && !isFlex(a) && pattern.Is(a) && pattern.Is(b):
			f, xs := term.Spine(b)
			n.solve(f, xs, a)
			bound1 = true
		default:
			left = append(left, naivePair{p.around, a, b})
		}
		if bound1 {
			todo = slices.Concat(left, todo)
			left = nil
		}
	}
	return left
}

// copy returns a state that changes on its own.
func (n *naive) copy() *naive {
	c := *n
	c.inst.Types, c.inst.Terms = slices.Clone(n.inst.Types), slices.Clone(n.inst.Terms)
	return &c
}

type naivePair struct {
	around []api.Type
	a, b   api.Term
}

type naiveSearch struct {
	l    []pattern.Pair
	made int
	most int
	out  []Unifier
}

// fails reports whether a function fails.
func fails(f func()) (failed bool) {
	defer func() {
		if r := recover(); r != nil {
			_ = r.(api.Errno) // beyond ends all
			failed = true
		}
	}()
	f()
	return false
}

// from returns false, if the search is at its end.
func (x *naiveSearch) from(n *naive, l []naivePair, depth int) bool {
	var left []naivePair
	if fails(func() { left = n.simplify(l) }) {
		return true
	}
	i := slices.IndexFunc(left, func(p naivePair) bool { return !isFlex(p.a) || !isFlex(p.b) })
	if i < 0 {
		x.out = append(x.out, x.unifier(n, left))
		return len(x.out) < x.most
	}
	if depth == 0 {
		return true
	}
	flex, rigid := left[i].a, left[i].b
	if !isFlex(flex) {
		flex, rigid = rigid, flex
	}
	f, as := term.Spine(flex)
	c, cs := term.Spine(rigid)
	try := func(make func(n *naive) bool) bool {
		next := n.copy()
		if !make(next) {
			return true
		}
		if x.made == 3000 {
			return false
		}
		x.made++
		return x.from(next, left, depth-1)
	}
	whole := func(n *naive, k api.Type) []api.Type {
		l, r := types.Strip(types.Apply(n.inst.Types, k))
		return append(l, r)
	}
	to := func(n *naive, head api.Term, results []api.Type) {
		around := whole(n, f.Type)[:len(as)]
		for _, r := range results {
			h := n.fresh(around, types.Apply(n.inst.Types, r))
			for i := range as {
				h = term.Apps(h, []api.Term{bound(len(as) - 1 - i)})
			}
			head = term.Apps(head, []api.Term{h})
		}
		n.bind(f, n.function(f, len(as), head))
	}
	if c.Op == api.Const || c.Op == api.Free {
		if !try(func(n *naive) bool { to(n, c, whole(n, c.Type)[:len(cs)]); return true }) {
			return false
		}
	}
	for i := range as {
		ok := try(func(n *naive) bool {
			fl := whole(n, f.Type)
			t := fl[len(fl)-1]
			for i := len(fl) - 2; i >= len(as); i-- {
				t = types.Fun(fl[i], t)
			}
			al := whole(n, fl[i])
			k := len(al) - len(whole(n, t))
			if k < 0 {
				return false
			}
			r := al[len(al)-1]
			for i := len(al) - 2; i >= k; i-- {
				r = types.Fun(al[i], r)
			}
			if fails(func() { n.types(r, t) }) {
				return false
			}
			to(n, bound(len(as)-1-i), al[:k])
			return true
		})
		if !ok {
			return false
		}
	}
	return true
}

func (x *naiveSearch) unifier(n *naive, left []naivePair) Unifier {
	var u Unifier
	var vars []api.Term
	for _, p := range x.l {
		vars = append(append(vars, term.Vars(p.A)...), term.Vars(p.B)...)
	}
	u.Inst.Types = slices.Clone(n.inst.Types)
	for _, b := range n.inst.Terms {
		if slices.ContainsFunc(vars, func(v api.Term) bool { return v.Name == b.Name && v.Num == b.Index }) {
			b.To = term.Apply(api.Inst{Types: n.inst.Types}, b.To)
			u.Inst.Terms = append(u.Inst.Terms, b)
		}
	}
	slices.SortFunc(u.Inst.Types, func(a, b api.TypeBind) int { return cmp.Or(cmp.Compare(a.Name, b.Name), cmp.Compare(a.Index, b.Index)) })
	slices.SortFunc(u.Inst.Terms, func(a, b api.TermBind) int { return cmp.Or(cmp.Compare(a.Name, b.Name), cmp.Compare(a.Index, b.Index)) })
	for _, p := range left {
		a, b := p.a, p.b
		for i := len(p.around) - 1; i >= 0; i-- {
			a = api.Term{Op: api.Abs, Name: "x", Type: p.around[i], Kids: []api.Term{a}}
			b = api.Term{Op: api.Abs, Name: "x", Type: p.around[i], Kids: []api.Term{b}}
		}
		i := api.Inst{Types: n.inst.Types}
		u.Flex = append(u.Flex, pattern.Pair{A: term.Apply(i, a), B: term.Apply(i, b)})
	}
	return u
}

// naiveFirst returns the first unifiers of right pairs; false, if this is too much.
func naiveFirst(thy api.Theory, l []pattern.Pair, depth, most int) (out []Unifier, ok bool) {
	defer func() {
		if r := recover(); r != nil {
			out, ok = nil, false
		}
	}()
	n := &naive{thy: thy}
	var pairs []naivePair
	for _, p := range l {
		n.next = max(n.next, term.MaxIndex(p.A)+1, term.MaxIndex(p.B)+1)
		a, _ := term.Norm(p.A, 1000)
		b, _ := term.Norm(p.B, 1000)
		pairs = append(pairs, naivePair{nil, a, b})
	}
	x := &naiveSearch{l: l, most: most}
	if fails(func() {
		for _, p := range l {
			a, _ := term.TypeOf(p.A)
			b, _ := term.TypeOf(p.B)
			n.types(a, b)
		}
	}) {
		return nil, true
	}
	x.from(n, pairs, depth)
	return x.out, true
}
