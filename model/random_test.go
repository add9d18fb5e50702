package model

import (
	"fmt"
	"math"
	"math/big"
	"math/rand"
	"reflect"
	"slices"
	"testing"

	"triforium/api"
	"triforium/kernel"
	"triforium/term"
	"triforium/theory"
	"triforium/types"
)

// naive gives terms values by full tables, which may be very large numbers: each constant is a table, too. It asks for no limits.
type naive struct {
	thy    api.Theory
	m      Model
	types  map[string]api.Type // of type variables
	values map[string]int      // of Frees and Vars
}

func nameOf(op int, name string, index int) string { return fmt.Sprint(op, name, index) }

// ground returns a type with types for its variables.
func (n naive) ground(t api.Type) api.Type {
	if t.Op != api.TCon {
		return n.types[nameOf(t.Op, t.Name, t.Index)]
	}
	out := api.Type{Op: api.TCon, Name: t.Name}
	for _, a := range t.Args {
		out.Args = append(out.Args, n.ground(a))
	}
	return out
}

func (n naive) carrier(name string) (Carrier, bool) {
	for _, c := range n.m.Carriers {
		if c.Name == name {
			return c, true
		}
	}
	return Carrier{}, false
}

// fields returns the types of the fields of a case of a type.
func (n naive) fields(t api.Type, k int) []api.Type {
	c, _ := n.carrier(t.Name)
	in := naive{m: n.m, types: map[string]api.Type{}}
	for i, p := range c.Params {
		in.types[nameOf(api.TFree, p, 0)] = t.Args[i]
	}
	var out []api.Type
	for _, f := range c.Cases[k] {
		out = append(out, in.ground(f))
	}
	return out
}

func (n naive) size(t api.Type) *big.Int {
	if types.IsFun(t) {
		return new(big.Int).Exp(n.size(t.Args[1]), n.size(t.Args[0]), nil)
	}
	c, ok := n.carrier(t.Name)
	if !ok {
		return big.NewInt(2)
	}
	sum := new(big.Int)
	for k := range c.Cases {
		product := big.NewInt(1)
		for _, f := range n.fields(t, k) {
			product.Mul(product, n.size(f))
		}
		sum.Add(sum, product)
	}
	return sum
}

// elements returns the fields of all elements of a case, in order.
func (n naive) elements(l []api.Type) [][]*big.Int {
	if len(l) == 0 {
		return [][]*big.Int{nil}
	}
	var out [][]*big.Int
	for x := range n.size(l[0]).Int64() {
		for _, rest := range n.elements(l[1:]) {
			out = append(out, append([]*big.Int{big.NewInt(x)}, rest...))
		}
	}
	return out
}

// element returns the number of the element of a case with some fields; find its case and fields.
func (n naive) element(t api.Type, k int, fields []*big.Int) *big.Int {
	c, _ := n.carrier(t.Name)
	at := int64(0)
	for i := range c.Cases {
		for _, l := range n.elements(n.fields(t, i)) {
			if i == k && fmt.Sprint(l) == fmt.Sprint(fields) {
				return big.NewInt(at)
			}
			at++
		}
	}
	panic("no element")
}

func (n naive) find(t api.Type, x *big.Int) (int, []*big.Int) {
	c, _ := n.carrier(t.Name)
	at := int64(0)
	for i := range c.Cases {
		for _, l := range n.elements(n.fields(t, i)) {
			if at == x.Int64() {
				return i, l
			}
			at++
		}
	}
	panic("no element")
}

// call applies a function of a type.
func (n naive) call(t api.Type, f, x *big.Int) *big.Int {
	m := n.size(t.Args[1])
	power := new(big.Int).Exp(m, x, nil)
	return power.Mod(power.Div(f, power), m)
}

// table returns the function of a type that gives what f says.
func (n naive) table(t api.Type, f func(*big.Int) *big.Int) *big.Int {
	sum, m := new(big.Int), n.size(t.Args[1])
	for x := range n.size(t.Args[0]).Int64() {
		power := new(big.Int).Exp(m, big.NewInt(x), nil)
		sum.Add(sum, power.Mul(power, f(big.NewInt(x))))
	}
	return sum
}

// curried returns the constant of a type that gives what f says of so many arguments.
func (n naive) curried(t api.Type, takes int, f func([]*big.Int) *big.Int, args ...*big.Int) *big.Int {
	if takes == 0 {
		return f(args)
	}
	return n.table(t, func(x *big.Int) *big.Int {
		return n.curried(t.Args[1], takes-1, f, append(slices.Clone(args), x)...)
	})
}

func bit(b bool) *big.Int { return big.NewInt(int64(truth(b))) }

func isOne(x *big.Int) bool { return x.Cmp(big.NewInt(1)) == 0 }

// constant returns the value of a constant at a type.
func (n naive) constant(name string, t api.Type) *big.Int {
	set := func(f func(yes []int64, all int64) *big.Int) *big.Int {
		return n.curried(t, 1, func(l []*big.Int) *big.Int {
			k := t.Args[0]
			var yes []int64
			all := n.size(k.Args[0]).Int64()
			for x := range all {
				if isOne(n.call(k, l[0], big.NewInt(x))) {
					yes = append(yes, x)
				}
			}
			return f(yes, all)
		})
	}
	switch name {
	case "True":
		return big.NewInt(1)
	case "False":
		return big.NewInt(0)
	case "Trueprop", "protect":
		return n.curried(t, 1, func(l []*big.Int) *big.Int { return l[0] })
	case "Not":
		return n.curried(t, 1, func(l []*big.Int) *big.Int { return bit(!isOne(l[0])) })
	case "And":
		return n.curried(t, 2, func(l []*big.Int) *big.Int { return bit(isOne(l[0]) && isOne(l[1])) })
	case "Or":
		return n.curried(t, 2, func(l []*big.Int) *big.Int { return bit(isOne(l[0]) || isOne(l[1])) })
	case "Implies", "imp":
		return n.curried(t, 2, func(l []*big.Int) *big.Int { return bit(!isOne(l[0]) || isOne(l[1])) })
	case "Equal", "eq":
		return n.curried(t, 2, func(l []*big.Int) *big.Int { return bit(l[0].Cmp(l[1]) == 0) })
	case "If":
		return n.curried(t, 3, func(l []*big.Int) *big.Int {
			if isOne(l[0]) {
				return l[1]
			}
			return l[2]
		})
	case "All", "all":
		return set(func(yes []int64, all int64) *big.Int { return bit(int64(len(yes)) == all) })
	case "Ex":
		return set(func(yes []int64, all int64) *big.Int { return bit(len(yes) > 0) })
	case "The":
		return set(func(yes []int64, all int64) *big.Int {
			if len(yes) == 1 {
				return big.NewInt(yes[0])
			}
			return big.NewInt(0)
		})
	}
	return n.further(name, t)
}

// further returns the value of a constant that is not known.
func (n naive) further(name string, t api.Type) *big.Int {
	if right, ok := n.definition(name, t); ok {
		return naive{n.thy, n.m, nil, nil}.value(right, nil, nil)
	}
	for _, m := range n.m.Meanings {
		if m.Name != name {
			continue
		}
		switch m.How {
		case Table:
			return big.NewInt(int64(m.Value))
		case Maker:
			c, _ := n.carrier(m.Type)
			takes := len(c.Cases[m.Case])
			to := t
			for range takes {
				to = to.Args[1]
			}
			return n.curried(t, takes, func(l []*big.Int) *big.Int { return n.element(to, m.Case, l) })
		case Part:
			return n.curried(t, 1, func(l []*big.Int) *big.Int {
				if k, fields := n.find(t.Args[0], l[0]); k == m.Case {
					return fields[m.Field]
				}
				return big.NewInt(0)
			})
		case Chooser:
			return n.chooser(t, m)
		}
	}
	return big.NewInt(0)
}

func (n naive) chooser(t api.Type, m Meaning) *big.Int {
	args, _ := types.Strip(t)
	c, _ := n.carrier(m.Type)
	cases := len(c.Cases)
	return n.curried(t, cases+1, func(l []*big.Int) *big.Int {
		k, fields := n.find(args[cases], l[cases])
		v, f := l[k], args[k]
		for _, x := range fields {
			v = n.call(f, v, x)
			f = f.Args[1]
		}
		return v
	})
}

// typeOf returns the type of a term within abstractions of some types.
func (n naive) typeOf(t api.Term, around []api.Type) api.Type {
	switch t.Op {
	case api.Bound:
		return around[len(around)-1-t.Num]
	case api.Abs:
		k := n.ground(t.Type)
		return types.Fun(k, n.typeOf(t.Kids[0], append(slices.Clone(around), k)))
	case api.App:
		return n.typeOf(t.Kids[0], around).Args[1]
	}
	return n.ground(t.Type)
}

// value returns the value of a term within abstractions of some types, whose variables mean some values.
func (n naive) value(t api.Term, around []api.Type, bound []*big.Int) *big.Int {
	switch t.Op {
	case api.Const:
		return n.constant(t.Name, n.ground(t.Type))
	case api.Bound:
		return bound[len(bound)-1-t.Num]
	case api.Abs:
		k := n.ground(t.Type)
		return n.table(n.typeOf(t, around), func(x *big.Int) *big.Int {
			return n.value(t.Kids[0], append(slices.Clone(around), k), append(slices.Clone(bound), x))
		})
	case api.App:
		return n.call(n.typeOf(t.Kids[0], around), n.value(t.Kids[0], around, bound), n.value(t.Kids[1], around, bound))
	}
	return big.NewInt(int64(n.values[nameOf(t.Op, t.Name, t.Num)]))
}

// tooLarge reports whether the tables for a term would be too large for a test.
func (n naive) tooLarge(t api.Term) bool {
	u, e := theory.Unfolded(n.thy, t)
	return e != api.OK || n.tooLargeWithin(u, nil)
}

func (n naive) tooLargeWithin(t api.Term, around []api.Type) bool {
	if size(n, n.typeOf(t, around)) > 3000 {
		return true
	}
	if t.Op == api.Abs {
		around = append(slices.Clone(around), n.ground(t.Type))
	}
	return slices.ContainsFunc(t.Kids, func(k api.Term) bool { return n.tooLargeWithin(k, around) })
}

// size returns how many bits a table has, roughly; a large number if it is very large.
func size(n naive, t api.Type) float64 {
	if types.IsFun(t) {
		return math.Min(1e9, count(n, t.Args[0])*size(n, t.Args[1]))
	}
	return 1 + math.Log2(count(n, t))
}

func count(n naive, t api.Type) float64 {
	if types.IsFun(t) {
		return math.Min(1e9, math.Pow(count(n, t.Args[1]), count(n, t.Args[0])))
	}
	c, ok := n.carrier(t.Name)
	if !ok {
		return 2
	}
	sum := 0.0
	for k := range c.Cases {
		product := 1.0
		for _, f := range n.fields(t, k) {
			product *= count(n, f)
		}
		sum += product
	}
	return math.Min(1e9, sum)
}

// definition returns the right side of the definition of a constant at a type.
func (n naive) definition(name string, t api.Type) (api.Term, bool) {
	for _, x := range n.thy.Axioms {
		left, right, _ := term.IsEq(x.Prop)
		if x.Kind != api.Defining || left.Name != name {
			continue
		}
		if l, e := types.Match(n.thy, left.Type, t, nil); e == api.OK {
			return term.Apply(api.Inst{Types: l}, right), true
		}
	}
	return api.Term{}, false
}

// takes returns how many arguments a constant takes that is not defined.
func (n naive) takes(name string) int {
	switch name {
	case "imp", "eq", "And", "Or", "Implies", "Equal":
		return 2
	case "all", "protect", "Trueprop", "Not", "All", "Ex", "The":
		return 1
	case "If":
		return 3
	}
	for _, m := range n.m.Meanings {
		c, _ := n.carrier(m.Type)
		switch {
		case m.Name == name && m.How == Maker:
			return len(c.Cases[m.Case])
		case m.Name == name && m.How == Chooser:
			return len(c.Cases) + 1
		case m.Name == name && m.How == Part:
			return 1
		}
	}
	return 0
}

// cost returns the work of a term with some arguments behind its own ones, and whether something that is evaluated is of a type that is too large.
func (n naive) cost(t api.Term, around []api.Type, behind int) (work float64, large bool) {
	head, args := term.Spine(t)
	work = 1
	if behind == 0 {
		large = count(n, n.typeOf(t, around)) > MaxSize
	}
	add := func(w float64, l bool) { work, large = work+w, large || l }
	for _, a := range args {
		add(n.cost(a, around, 0))
	}
	behind += len(args)
	switch head.Op {
	case api.Free, api.Var, api.Bound:
		add(0, count(n, n.typeOf(head, around)) > MaxSize)
	case api.Abs:
		if behind == 0 {
			k := n.ground(head.Type)
			w, l := n.cost(head.Kids[0], append(slices.Clone(around), k), 0)
			add(math.Min(MaxSize+1, count(n, k))*w, l)
			break
		}
		for head.Op == api.Abs && behind > 0 {
			around = append(slices.Clone(around), n.ground(head.Type))
			head, behind = head.Kids[0], behind-1
		}
		add(n.cost(head, around, behind))
	case api.Const:
		k := n.ground(head.Type)
		if right, ok := n.definition(head.Name, k); ok {
			add(naive{n.thy, n.m, nil, nil}.cost(right, nil, behind))
			break
		}
		missing := 1.0
		from, _ := types.Strip(k)
		for i := behind; i < n.takes(head.Name); i++ {
			missing *= math.Min(MaxSize+1, count(n, from[i]))
		}
		if behind < n.takes(head.Name) {
			add(missing, false)
		}
	}
	return work, large
}

// gen makes random terms of the theory of world1, and more.
type gen struct {
	*rand.Rand
	thy   api.Theory
	names map[string]string
}

func newGen(seed int, thy api.Theory) *gen {
	return &gen{rand.New(rand.NewSource(int64(seed))), thy, map[string]string{}}
}

func (g *gen) typ(depth int) api.Type {
	if depth > 0 && g.Intn(3) == 0 {
		return types.Fun(g.typ(depth-1), g.typ(depth-1))
	}
	return typ([]string{"B", "B", "T", "T", "u", "option(T)", "pair(B, T)", "P", "'a", "?b.1"}[g.Intn(10)])
}

func (g *gen) small(depth int) api.Type {
	for {
		if t := g.typ(depth); len(types.Variables(t)) == 0 {
			return t
		}
	}
}

func (g *gen) variable(t api.Type) api.Term {
	key, _ := types.Text(t)
	if g.names[key] == "" {
		g.names[key] = fmt.Sprint("v", len(g.names))
	}
	if g.Intn(2) == 0 {
		return api.Term{Op: api.Var, Name: g.names[key], Num: g.Intn(2), Type: t}
	}
	return api.Term{Op: api.Free, Name: g.names[key], Type: t}
}

// leaf returns a term of a type without Kids.
func (g *gen) leaf(t api.Type, around []api.Type) api.Term {
	for range around {
		if i := g.Intn(len(around)); types.Equal(around[len(around)-1-i], t) {
			return api.Term{Op: api.Bound, Num: i}
		}
	}
	if g.Intn(3) > 0 {
		return g.variable(t)
	}
	if x, ok := g.use(t, nil, 0); ok {
		return x
	}
	return g.variable(t)
}

// use returns a constant that is applied to some arguments, and is of a type then.
func (g *gen) use(t api.Type, around []api.Type, depth int) (api.Term, bool) {
	from := g.Intn(len(g.thy.Consts))
	for i := range g.thy.Consts {
		c := g.thy.Consts[(from+i)%len(g.thy.Consts)]
		args, result := types.Strip(c.Type)
		n := g.Intn(len(args) + 1)
		if depth == 0 {
			n = 0
		}
		l, e := types.Match(g.thy, functions(args[n:], result), t, nil)
		if e != api.OK || c.Name == "some" {
			continue
		}
		for _, v := range types.Variables(c.Type) {
			l = append(l, api.TypeBind{Name: v.Name, Index: v.Index, To: g.typ(0)})
		}
		x := api.Term{Op: api.Const, Name: c.Name, Type: types.Apply(l, c.Type)}
		for _, a := range args[:n] {
			x = api.Term{Op: api.App, Kids: []api.Term{x, g.term(types.Apply(l, a), around, depth-1)}}
		}
		return x, true
	}
	return api.Term{}, false
}

// term returns a term of a type within abstractions of some types; the outermost one is the first one.
func (g *gen) term(t api.Type, around []api.Type, depth int) api.Term {
	if depth == 0 {
		return g.leaf(t, around)
	}
	app := func(f, a api.Term) api.Term { return api.Term{Op: api.App, Kids: []api.Term{f, a}} }
	a := g.typ(1)
	switch k := g.Intn(6); {
	case types.IsFun(t) && k < 3:
		return api.Term{Op: api.Abs, Name: "x", Type: t.Args[0], Kids: []api.Term{g.term(t.Args[1], append(slices.Clone(around), t.Args[0]), depth-1)}}
	case k == 3:
		return app(g.term(types.Fun(a, t), around, depth-1), g.term(a, around, depth-1))
	case t.Name == "bool" && k == 4:
		f := api.Term{Op: api.Const, Name: []string{"All", "Ex"}[g.Intn(2)], Type: types.Fun(types.Fun(a, t), t)}
		return app(f, api.Term{Op: api.Abs, Name: "x", Type: a, Kids: []api.Term{g.term(t, append(slices.Clone(around), a), depth-1)}})
	case (t.Name == "bool" || t.Name == "prop") && k == 5:
		f := api.Term{Op: api.Const, Name: map[string]string{"bool": "Equal", "prop": "eq"}[t.Name], Type: types.Fun(a, types.Fun(a, t))}
		return app(app(f, g.term(a, around, depth-1)), g.term(a, around, depth-1))
	}
	if x, ok := g.use(t, around, depth); ok {
		return x
	}
	return g.leaf(t, around)
}

// assigned returns an assignment for the variables of terms, also for the naive reference.
func (g *gen) assigned(m Model, l ...api.Term) (Assign, naive) {
	n := naive{g.thy, m, map[string]api.Type{}, map[string]int{}}
	var a Assign
	for _, t := range l {
		for _, v := range term.TypeVariables(t) {
			if _, ok := n.types[nameOf(v.Op, v.Name, v.Index)]; !ok {
				k := typ([]string{"B", "T", "u", "option(T)"}[g.Intn(4)])
				n.types[nameOf(v.Op, v.Name, v.Index)] = k
				a.Types = append(a.Types, api.TypeBind{Name: v.Name, Index: indexOf(v.Op == api.TFree, v.Index), To: k})
			}
		}
	}
	for _, t := range l {
		for _, v := range slices.Concat(term.Frees(t), term.Vars(t)) {
			if _, ok := n.values[nameOf(v.Op, v.Name, v.Num)]; ok {
				continue
			}
			x := 0
			if k := n.ground(v.Type); count(n, k) < 1e9 {
				x = int(g.Int63n(n.size(k).Int64()))
			}
			n.values[nameOf(v.Op, v.Name, v.Num)] = x
			a.Values = append(a.Values, Value{v.Name, indexOf(v.Op == api.Free, v.Num), x})
		}
	}
	return a, n
}

// world2 is world1 with definitions.
func world2() (api.Theory, Model) {
	thy, m := world1()
	thy = extended(thy, nil, []string{"op F(?a.0, F(?a.0, ?a.0))"})
	thy = overloaded(thy, "op", [2]string{"B", "And:F(B, F(B, B))"}, [2]string{"option('a)", "(\\x:option('a) . (\\y:option('a) . (Some:F('a, option('a)) ((op:F('a, F('a, 'a)) (get:F(option('a), 'a) #1)) (get:F(option('a), 'a) #0)))))"})
	return defined(thy, [2]string{"id", "(\\x:'a . #0)"}, [2]string{"twice", "(\\g:F('a, 'a) . (\\x:'a . (#1 (#1 #0))))"}, [2]string{"swap", "(split:F(F('a, F('b, pair('b, 'a))), F(pair('a, 'b), pair('b, 'a))) (\\x:'a . (\\y:'b . ((Pair:F('b, F('a, pair('b, 'a))) #0) #1))))"}), m
}

// P8.1: values are what full tables say.
func TestP81RandomEvaluate(t *testing.T) {
	thy, m := world2()
	codes := map[api.Errno]int{}
	uses := map[string]int{}
	for seed := range 6000 {
		g := newGen(seed, thy)
		x := g.term(g.small(1), nil, 4)
		for range 3 * (seed % 5 / 4) { // much work
			x = api.Term{Op: api.Abs, Type: typ("pair(T, pair(T, option(T)))"), Kids: []api.Term{x}}
		}
		a, n := g.assigned(m, x)
		v, e := Evaluate(thy, m, x, a)
		codes[e]++
		want := api.OK
		if work, large := n.cost(x, nil, 0); work > MaxWork {
			want = api.ErrFuel
		} else if large {
			want = api.ErrLarge
		}
		if e != want {
			t.Fatal(seed, text(x), e, want)
		}
		if e != api.OK || seed%5 == 4 || n.tooLarge(x) {
			continue
		}
		codes[-1]++
		for k := range term.Nodes(x) {
			if k.Op == api.Const {
				uses[k.Name]++
			}
		}
		if want := n.value(x, nil, nil); want.Cmp(big.NewInt(int64(v))) != 0 {
			t.Fatal(seed, text(x), assignment(a), v, want)
		}
	}
	if codes[-1] < 2000 || codes[api.ErrLarge] < 50 || codes[api.ErrFuel] < 20 {
		t.Error("hardly tried", codes)
	}
	for _, c := range thy.Consts {
		if uses[c.Name] < 5 && c.Name != "some" && c.Name != "Leaf" {
			t.Error("hardly tried", c.Name, uses[c.Name])
		}
	}
}

// P8.3: what Beta and Eta make has the same value.
func TestP83Beta(t *testing.T) {
	thy, m := world2()
	beta, eta := 0, 0
	for seed := range 3000 {
		g := newGen(seed, thy)
		k := g.typ(1)
		abs := api.Term{Op: api.Abs, Name: "x", Type: k, Kids: []api.Term{g.term(g.small(1), []api.Type{k}, 3)}}
		redex := api.Term{Op: api.App, Kids: []api.Term{abs, g.term(k, nil, 2)}}
		f := g.term(types.Fun(k, g.small(0)), nil, 3)
		long := api.Term{Op: api.Abs, Name: "x", Type: k, Kids: []api.Term{{Op: api.App, Kids: []api.Term{f, {Op: api.Bound}}}}}
		for i, x := range []api.Term{redex, long} {
			y, _ := term.Beta(x)
			if i == 1 {
				y = f
			}
			a, _ := g.assigned(m, x, y)
			v, e1 := Evaluate(thy, m, x, a)
			w, e2 := Evaluate(thy, m, y, a)
			if e1 != api.OK || e2 != api.OK {
				continue
			}
			if v != w {
				t.Fatal(seed, text(x), text(y), v, w)
			}
			if i == 0 {
				beta++
			} else {
				eta++
			}
		}
	}
	if beta < 1000 || eta < 500 {
		t.Error("hardly tried", beta, eta)
	}
}

// P8.4: the value of an instance is that with the value of the term.
func TestP84Substitution(t *testing.T) {
	thy, m := world2()
	tried := 0
	for seed := range 3000 {
		g := newGen(seed, thy)
		k := g.small(1)
		body := g.term(g.small(1), nil, 3)
		v := api.Term{Op: api.Var, Name: "new", Type: k}
		body = api.Term{Op: api.App, Kids: []api.Term{{Op: api.App, Kids: []api.Term{{Op: api.Const, Name: "Equal", Type: types.Fun(k, types.Fun(k, typ("B")))}, v}}, g.term(k, nil, 2)}}
		x := g.term(k, nil, 3)
		put := term.Apply(api.Inst{Terms: []api.TermBind{{Name: "new", To: x}}}, body)
		a, _ := g.assigned(m, put, x)
		n, e := Evaluate(thy, m, x, a)
		if e != api.OK {
			continue
		}
		with := Assign{a.Types, append(slices.Clone(a.Values), Value{"new", 0, n})}
		one, e1 := Evaluate(thy, m, put, a)
		other, e2 := Evaluate(thy, m, body, with)
		if e1 == api.OK && e2 == api.OK {
			tried++
			if one != other {
				t.Fatal(seed, text(put), one, other)
			}
		}
	}
	if tried < 1000 {
		t.Error("hardly tried", tried)
	}
}

// P8.5: Make is the inverse of Element, and functions are what they give.
func TestP85Elements(t *testing.T) {
	thy, m := world2()
	for _, s := range []string{"T", "tree", "u", "option(tree)", "pair(option(T), tree)", "pair(F(T, T), pair(u, T))", "option(F(option(T), T))"} {
		n, e := Size(thy, m, typ(s))
		met := map[string]bool{}
		for x := range n {
			k, fields, e1 := Element(thy, m, typ(s), x)
			y, e2 := Make(thy, m, typ(s), k, fields)
			key := fmt.Sprint(k, fields)
			if e != api.OK || e1 != api.OK || e2 != api.OK || x != y || met[key] {
				t.Fatal(s, x, k, fields, y, e, e1, e2)
			}
			met[key] = true
		}
	}
	for _, s := range [][2]string{{"T", "T"}, {"T", "tree"}, {"option(T)", "option(T)"}, {"u", "tree"}, {"tree", "u"}, {"F(T, T)", "B"}, {"T", "F(T, T)"}} {
		a, b := typ(s[0]), typ(s[1])
		from, _ := Size(thy, m, a)
		to, _ := Size(thy, m, b)
		n, e := Size(thy, m, types.Fun(a, b))
		met := map[string]bool{}
		for f := range n {
			var l []int
			for x := range from {
				y, e1 := Call(thy, m, a, b, f, x)
				if e1 != api.OK || y < 0 || y >= to {
					t.Fatal(s, f, x, y, e1)
				}
				l = append(l, y)
			}
			if met[fmt.Sprint(l)] || e != api.OK {
				t.Fatal(s, f, l)
			}
			met[fmt.Sprint(l)] = true
		}
		if n != int(math.Pow(float64(to), float64(from))) {
			t.Error(s, n)
		}
	}
}

// naiveHolds is what the document says of Holds, for a question without errors.
func naiveHolds(g *gen, m Model, hyps []api.Term, prop api.Term) (bool, string) {
	l := append(slices.Clone(hyps), prop)
	var kinds []api.Type
	var frees, vars []api.Term
	for _, t := range l {
		kinds = joined(kinds, term.TypeVariables(t), types.Equal)
		frees = joined(frees, term.Frees(t), term.Equal)
		vars = joined(vars, term.Vars(t), term.Equal)
	}
	n := naive{g.thy, m, map[string]api.Type{}, map[string]int{}}
	variables := append(frees, vars...)
	var a Assign
	var try func(i int) bool
	try = func(i int) bool {
		if i < len(kinds) {
			v := kinds[i]
			for _, k := range m.Ground {
				n.types[nameOf(v.Op, v.Name, v.Index)] = k
				a.Types = append(a.Types[:i:i], api.TypeBind{Name: v.Name, Index: indexOf(v.Op == api.TFree, v.Index), To: k})
				if !try(i + 1) {
					return false
				}
			}
			return true
		}
		if k := i - len(kinds); k < len(variables) {
			v := variables[k]
			for x := range int(n.size(n.ground(v.Type)).Int64()) {
				n.values[nameOf(v.Op, v.Name, v.Num)] = x
				a.Values = append(a.Values[:k:k], Value{v.Name, indexOf(v.Op == api.Free, v.Num), x})
				if !try(i + 1) {
					return false
				}
			}
			return true
		}
		for _, h := range hyps {
			if !isOne(n.value(h, nil, nil)) {
				return true
			}
		}
		return isOne(n.value(prop, nil, nil))
	}
	if try(0) {
		return true, ""
	}
	return false, assignment(a)
}

func TestP81RandomHolds(t *testing.T) {
	thy, m := world2()
	m.Ground = []api.Type{typ("u"), typ("T"), typ("B")}
	results := map[bool]int{}
	for seed := range 1000 {
		g := newGen(seed, thy)
		var hyps []api.Term
		for range g.Intn(3) {
			hyps = append(hyps, g.term(types.Prop(), nil, 2))
		}
		prop := g.term(types.Prop(), nil, 3)
		ok, a, e := Holds(thy, m, hyps, prop)
		if e != api.OK {
			if e != api.ErrLarge && e != api.ErrFuel {
				t.Fatal(seed, e)
			}
			continue
		}
		_, n := g.assigned(m, append(slices.Clone(hyps), prop)...)
		for k := range n.types {
			n.types[k] = typ("B") // one of those of the greatest size
		}
		large := n.tooLarge(prop)
		for _, h := range hyps {
			large = large || n.tooLarge(h)
		}
		if large {
			continue
		}
		results[ok]++
		if want, s := naiveHolds(g, m, hyps, prop); ok != want || assignment(a) != s {
			t.Fatal(seed, text(prop), ok, assignment(a), want, s)
		}
	}
	if results[true] < 50 || results[false] < 50 {
		t.Error("hardly tried", results)
	}
}

// prover makes random theorems of a theory.
type prover struct {
	*gen
	base     kernel.Base
	theorems []kernel.Theorem
}

func (p *prover) any() kernel.Theorem {
	if len(p.theorems) == 0 {
		return kernel.Theorem{}
	}
	return p.theorems[p.Intn(len(p.theorems))]
}

func (p *prover) stating(t api.Term) kernel.Theorem {
	for _, x := range p.theorems {
		if term.Equal(x.Prop(), t) {
			return x
		}
	}
	x, _ := p.base.Assume(t)
	return x
}

func (p *prover) inst(t kernel.Theorem) api.Inst {
	var i api.Inst
	for _, v := range term.TypeVariables(t.Prop()) {
		if v.Op == api.TVar && p.Intn(4) > 0 {
			i.Types = append(i.Types, api.TypeBind{Name: v.Name, Index: v.Index, To: p.small(1)})
		}
	}
	for _, v := range term.Vars(t.Prop()) {
		if p.Intn(3) > 0 {
			i.Terms = append(i.Terms, api.TermBind{Name: v.Name, Index: v.Num, To: p.term(types.Apply(i.Types, v.Type), nil, 2)})
		}
	}
	return i
}

func (p *prover) step() {
	a, b := p.any(), p.any()
	var t kernel.Theorem
	switch p.Intn(14) {
	case 0, 1:
		t, _ = p.base.Axiom(p.thy.Axioms[p.Intn(len(p.thy.Axioms))].Name)
	case 2:
		t, _ = p.base.Assume(p.term(types.Prop(), nil, 2))
	case 3:
		if l := a.Hyps(); len(l) > 0 {
			t, _ = kernel.ImpIntro(l[p.Intn(len(l))], a)
		}
	case 4, 5:
		if x, _, ok := term.IsImp(a.Prop()); ok {
			t, _ = kernel.ImpElim(a, p.stating(x))
		}
	case 6:
		t, _ = kernel.AllIntro(p.variable(p.small(0)), a)
		if l := term.Frees(a.Prop()); len(l) > 0 {
			t, _ = kernel.AllIntro(l[0], a)
		}
	case 7:
		if x, ok := term.IsAll(a.Prop()); ok {
			t, _ = kernel.AllElim(p.term(x.Type, nil, 2), a)
		}
	case 8:
		t, _ = p.base.Reflexive(p.term(p.small(1), nil, 2))
	case 9:
		t, _ = kernel.Symmetric(a)
		if u, e := kernel.Transitive(a, t); e == api.OK {
			t = u
		}
	case 10:
		t, _ = kernel.Combination(a, b)
		if x, y, ok := term.IsEq(a.Prop()); ok && p.Intn(2) == 0 && types.Equal(must2(term.TypeOf(x)), types.Prop()) {
			t, _ = kernel.EqElim(a, p.stating(x))
			_ = y
		}
	case 11:
		t, _ = kernel.Instantiate(p.inst(a), a)
	case 12:
		t, _ = kernel.Generalize(nil, []string{"v0", "v1", "v2"}[:p.Intn(4)], 5, a)
	case 13:
		k := p.small(0)
		t, _ = p.base.Beta(api.Term{Op: api.App, Kids: []api.Term{{Op: api.Abs, Type: k, Kids: []api.Term{p.term(p.small(0), []api.Type{k}, 2)}}, p.term(k, nil, 1)}})
		if u, e := kernel.EqIntro(a, b); e == api.OK {
			t = u
		}
	}
	if n, _ := term.Size(t.Prop()); t.Is() && n < 60 && len(t.Hyps()) < 4 {
		p.theorems = append(p.theorems, t)
	}
}

func must2(k api.Type, _ api.Errno) api.Type { return k }

// P8.2: theorems without oracles hold in the models of the axioms.
func TestP82Sound(t *testing.T) {
	thy := extended(logic(), []string{"t", "u"}, []string{"a T", "b T", "p F(T, B)", "f F(T, u)"}, append(holAxioms(), [2]string{"p_a", tr("(p:F(T, B) a:T)")}, [2]string{"a_b", imp(eq("T", "a:T", "b:T"), tr("False:B"))},
		[2]string{"inj", imp(eq("u", "(f:F(T, u) ?x.0:T)", "(f:F(T, u) ?y.0:T)"), eq("T", "?x.0:T", "?y.0:T"))}, [2]string{"all_p", imp("(all:F(F(T, P), P) (\\x:T . "+tr("(p:F(T, B) #0)")+"))", tr(quantified("Ex", "u", not(equal("u", "#0", "(f:F(T, u) b:T)")))))})...)
	thy = defined(thy, [2]string{"q", "(\\x:T . (Not:F(B, B) (p:F(T, B) #0)))"}, [2]string{"id", "(\\x:'a . #0)"})
	var all []Model
	for _, sizes := range [][2]int{{2, 2}, {2, 3}} {
		for a := range 2 {
			for p := range 4 {
				for f := range sizes[1] * sizes[1] {
					m := Model{Carriers: []Carrier{points("t", sizes[0]), points("u", sizes[1])}, Meanings: []Meaning{{Name: "a", How: Table, Value: a}, {Name: "b", How: Table, Value: 1 - a}, {Name: "p", How: Table, Value: p}, {Name: "f", How: Table, Value: f}}, Ground: []api.Type{typ("T"), typ("B")}}
					if ok, _, e := True(thy, m); ok && e == api.OK {
						all = append(all, m)
					}
				}
			}
		}
	}
	if len(all) < 10 {
		t.Fatal(len(all))
	}
	base, e := kernel.On(thy)
	held, long := 0, 0
	for seed := range 120 {
		p := &prover{newGen(seed, thy), base, nil}
		for range 120 {
			p.step()
		}
		for _, x := range p.theorems {
			m := all[p.Intn(len(all))]
			ok, a, e2 := Holds(thy, m, x.Hyps(), x.Prop())
			if e2 == api.OK && !ok {
				t.Fatal(seed, text(x.Prop()), assignment(a))
			}
			if e2 == api.OK {
				held++
				if len(x.Proof().Kids) > 0 {
					long++
				}
			}
		}
	}
	if e != api.OK || held < 3000 || long < 1000 {
		t.Error("hardly tried", e, held, long)
	}
}

// P1: no function panics, whatever it is given; with an error each other result is its zero value.
func TestP1Garbage(t *testing.T) {
	right := map[string]int{}
	thy, m := world2()
	for seed := range 4000 {
		g := newGen(seed, thy)
		x, y, k := thy, m, g.wildType()
		if g.Intn(4) == 0 {
			x = api.Theory{Name: "T"}
		}
		for g.Intn(4) == 0 {
			y = g.wildModel(y)
		}
		p, q := g.wildTerm(), g.wildTerm()
		var a Assign
		if _, e := term.Check(thy, p); e == api.OK {
			a, _ = g.assigned(m, p)
		}
		if g.Intn(3) == 0 {
			a = Assign{[]api.TypeBind{{Name: "a", Index: -1, To: k}}, []Value{{"v0", -1, g.number()}}}
		}
		check := func(name string, e api.Errno, l ...any) {
			if e == api.OK {
				right[name]++
				return
			}
			for _, v := range l {
				if r := reflect.ValueOf(v); r.IsValid() && !r.IsZero() {
					t.Fatal(seed, name, e, l)
				}
			}
		}
		check("Check", Check(x, y))
		n, e := Size(x, y, k)
		check("Size", e, n)
		c, l, e := Element(x, y, k, g.number())
		check("Element", e, c, l)
		n, e = Make(x, y, k, g.number(), []int{g.number(), g.number()}[:g.Intn(3)])
		check("Make", e, n)
		n, e = Call(x, y, k, g.wildType(), g.number(), g.number())
		check("Call", e, n)
		n, e = Evaluate(x, y, p, a)
		check("Evaluate", e, n)
		ok, b, e := Holds(x, y, []api.Term{p, q}[:g.Intn(3)], g.wildTerm())
		check("Holds", e, ok, b)
		if seed%20 == 0 {
			ok, name, e := True(x, y)
			check("True", e, ok, name)
			models, e := Models(extended(logic(), []string{"t"}, nil), g.number(), g.number())
			check("Models", e, models)
		}
	}
	for _, name := range []string{"Check", "Size", "Element", "Make", "Call", "Evaluate", "Holds", "True", "Models"} {
		if right[name] < 10 {
			t.Error("hardly tried", name, right[name])
		}
	}
}

func (g *gen) number() int {
	return []int{0, 0, 1, 1, 2, 3, -1, math.MaxInt, math.MinInt, 4096}[g.Intn(10)]
}

func (g *gen) wildType() api.Type {
	if g.Intn(3) > 0 {
		return g.small(2)
	}
	return []api.Type{{}, {Op: 9}, typ("none"), typ("'a"), typ("?a.0"), typ("pair(T)"), typ("option(tree)"), {Op: api.TCon, Name: "bool", Index: 1}, {Op: api.TVar, Name: "a", Index: g.number()}}[g.Intn(9)]
}

func (g *gen) wildTerm() api.Term {
	x := g.term(types.Prop(), nil, 2)
	switch g.Intn(10) {
	case 0:
		x.Op = g.number()
	case 1:
		x.Kids = append(x.Kids, api.Term{Op: api.Bound, Num: g.number()})
	case 2:
		x = g.term(g.typ(1), nil, 3)
	case 3:
		x = api.Term{Op: api.Free, Name: "\xff", Type: g.wildType(), Num: g.number()}
	}
	return x
}

// wildModel returns a model that differs from one in a few places.
func (g *gen) wildModel(m Model) Model {
	m.Carriers, m.Meanings, m.Ground = slices.Clone(m.Carriers), slices.Clone(m.Meanings), slices.Clone(m.Ground)
	i, k := g.Intn(len(m.Carriers)), g.Intn(len(m.Meanings))
	switch g.Intn(8) {
	case 0:
		m.Carriers[i].Name = []string{"", "bool", "t", "\xff"}[g.Intn(4)]
	case 1:
		m.Carriers[i].Params = append(slices.Clone(m.Carriers[i].Params), "q")
	case 2:
		m.Carriers[i].Cases = append(slices.Clone(m.Carriers[i].Cases), []api.Type{g.wildType()})
	case 3:
		m.Meanings[k].How = g.number()
	case 4:
		m.Meanings[k].Case, m.Meanings[k].Field = g.number(), g.number()
	case 5:
		m.Meanings[k].Value = g.number()
	case 6:
		m.Ground = append(m.Ground, g.wildType())
	case 7:
		m.Carriers[0], m.Carriers[i] = m.Carriers[i], m.Carriers[0]
	}
	return m
}

// Nothing that was given is changed.
func TestP81Own(t *testing.T) {
	thy, m := world2()
	before := fmt.Sprint(thy, m)
	for seed := range 300 {
		g := newGen(seed, thy)
		x := g.term(types.Prop(), nil, 3)
		a, _ := g.assigned(m, x)
		s := fmt.Sprint(x, a)
		Evaluate(thy, m, x, a)
		Holds(thy, m, []api.Term{x}, x)
		True(thy, m)
		if fmt.Sprint(x, a) != s {
			t.Fatal(seed)
		}
	}
	l, _ := Models(extended(logic(), []string{"t"}, []string{"a T"}), 2, 9)
	l[0].Ground[0].Name, l[0].Carriers[0].Name, l[0].Meanings[0].Name = "spoilt", "spoilt", "spoilt"
	if fmt.Sprint(thy, m) != before || l[1].Ground[0].Name != "bool" || l[1].Carriers[0].Name != "t" || l[1].Meanings[0].Name != "a" {
		t.Error("changed")
	}
	if _, e := theory.Extend(thy, "T", api.Theory{}); e != api.OK {
		t.Error(e)
	}
}
