package theory

import (
	"fmt"
	"math"
	"math/rand"
	"reflect"
	"testing"

	"triforium/api"
	"triforium/sort"
	"triforium/term"
	"triforium/types"
)

// garbage makes values that are right only now and then.
type garbage struct {
	*rand.Rand
}

func (g garbage) name() string {
	return []string{"a", "b", "c", "fun", "prop", "nat", "list", "eq", "imp", "all", "x", "", "1", "\xff", "é", "a.1", "?", "{", "op", "some"}[g.Intn(20)]
}

func (g garbage) number() int {
	return []int{0, 0, 0, 1, 2, -1, 10, 11, 1000000, 1000001, math.MaxInt, math.MinInt}[g.Intn(12)]
}

func (g garbage) sort() []string {
	var s []string
	for range g.Intn(4) {
		s = append(s, g.name())
	}
	return s
}

func (g garbage) typ(depth int) api.Type {
	t := api.Type{Op: g.Intn(6) - 1, Name: g.name()}
	if g.Intn(3) == 0 {
		t.Index = g.number()
	}
	if g.Intn(3) == 0 {
		t.Sort = g.sort()
	}
	if depth > 0 {
		for range g.Intn(3) {
			t.Args = append(t.Args, g.typ(depth-1))
		}
	}
	if g.Intn(3) == 0 {
		return typ([]string{"nat", "'a", "?a.0", "nat", "fun(nat, prop)", "?b.3{ord}", "prop"}[g.Intn(7)])
	}
	return t
}

func (g garbage) term(depth int) api.Term {
	t := api.Term{Op: g.Intn(9) - 1, Name: g.name(), Num: g.number(), Type: g.typ(1)}
	if depth > 0 {
		for range g.Intn(4) {
			t.Kids = append(t.Kids, g.term(depth-1))
		}
	}
	switch g.Intn(4) {
	case 0:
		return of([]string{"z:N", "$x:N", "some:N", "(s:F(N, N) z:N)", "(\\x:'a . #0)", "?A.0:P"}[g.Intn(6)])
	case 1:
		return api.Term{Op: api.App, Kids: []api.Term{{Op: api.Abs, Type: t.Type, Kids: []api.Term{t}}, t}}
	}
	return t
}

// some returns a few of some elements, and more.
func some[T any](g garbage, l []T, more func() T) []T {
	var out []T
	for _, x := range l {
		if g.Intn(30) > 0 {
			out = append(out, x)
		}
	}
	for g.Intn(4) == 0 {
		out = append(out, more())
	}
	return out
}

func (g garbage) theory() api.Theory {
	t := small()
	t.Classes = some(g, t.Classes, func() api.Class { return api.Class{Name: g.name(), Supers: g.sort()} })
	t.Types = some(g, t.Types, func() api.TypeDecl { return api.TypeDecl{Name: g.name(), Arity: g.number()} })
	t.Arities = some(g, t.Arities, func() api.Arity {
		return api.Arity{Type: g.name(), Class: g.name(), Sorts: [][]string{g.sort(), g.sort()}[:g.Intn(3)]}
	})
	t.Consts = some(g, t.Consts, func() api.ConstDecl { return api.ConstDecl{Name: g.name(), Type: g.typ(2)} })
	t.Axioms = some(g, t.Axioms, func() api.Axiom { return api.Axiom{Name: g.name(), Kind: g.number(), Prop: g.term(3)} })
	t.Oracles = some(g, t.Oracles, g.name)
	return t
}

// more returns what a theory is extended by.
func (g garbage) more() api.Theory {
	return api.Theory{Name: g.name(), Types: []api.TypeDecl{{Name: g.name(), Arity: g.number()}}, Oracles: some(g, nil, g.name)}
}

// results calls all functions of the four packages, and returns what they return.
func (g garbage) results() map[string][]any {
	a, b := g.theory(), g.theory()
	x, y, s, r := g.typ(3), g.typ(3), g.sort(), g.sort()
	l := []api.TypeBind{{Name: g.name(), Index: g.number(), To: x}, {Name: "a", To: y}}
	n, name := g.number(), g.name()
	text := fmt.Sprint(name, g.name(), g.name(), g.name())
	m := map[string][]any{}
	add := func(k string, v ...any) { m[k] = v }
	var one, two []any
	add("sort.Check", sort.Check(a))
	one, two = both(sort.Normal(a, s)), both(sort.Meet(a, s, r))
	add("sort.Normal", one...)
	add("sort.Meet", two...)
	one, two = both(sort.Args(a, name, s)), both(sort.Ground(a, s, g.Intn(8)-1))
	add("sort.Args", one...)
	add("sort.Ground", two...)
	sort.IsName(text)
	sort.Below(a, name, text)
	sort.Less(a, s, r)
	types.Fun(x, y)
	types.Strip(x)
	types.Size(x)
	types.Equal(x, y)
	types.Compare(x, y)
	types.Variables(x)
	types.Apply(l, x)
	types.Raise(x, n)
	types.MaxIndex(x)
	types.HasSort(a, x, s)
	add("types.Check", types.Check(a, x))
	one, two = both(types.Match(a, x, y, l)), both(types.Unify(a, x, y))
	add("types.Match", one...)
	add("types.Unify", two...)
	one, two = both(types.Text(x)), both(types.Read(text))
	add("types.Text", one...)
	add("types.Read", two...)
	g.laterResults(a, b, x, text, add)
	return m
}

func both(v ...any) []any { return v }

// laterResults is results of the packages term and theory.
func (g garbage) laterResults(a, b api.Theory, x api.Type, text string, add func(string, ...any)) {
	p, q, n, name := g.term(4), g.term(4), g.number(), g.name()
	i := api.Inst{Types: []api.TypeBind{{Name: "a", To: x}}, Terms: []api.TermBind{{Name: g.name(), Index: g.number(), To: p}}}
	one, two := both(term.Check(a, p)), both(term.TypeOf(p))
	add("term.Check", one...)
	add("term.TypeOf", two...)
	one, two = both(term.Norm(p, n%50)), both(term.Eq(p, q))
	add("term.Norm", one...)
	add("term.Eq", two...)
	one, two = both(term.Text(p)), both(term.Read(text))
	add("term.Text", one...)
	add("term.Read", two...)
	g.walks(p, q, i, n)
	add("theory.Check", Check(a))
	one, two = both(Merge(name, a, b)), both(Extend(a, name, g.more()))
	add("theory.Merge", one...)
	add("theory.Extend", two...)
	one, two = both(Define(a, name, g.name(), p)), both(Overload(small(), name, []string{"some", name}[g.Intn(2)], x, p))
	add("theory.Define", one...)
	add("theory.Overload", two...)
	add("theory.Unfolded", both(Unfolded(a, p))...)
	Within(a, b)
	Const(a, name)
	Axiom(a, name)
}

// walks calls the functions of any terms.
func (g garbage) walks(p, q api.Term, i api.Inst, n int) {
	term.Size(p)
	term.Equal(p, q)
	term.Compare(p, q)
	term.Apply(i, p)
	term.Bind(q, p)
	term.Put(p, q)
	term.Lift(p, n)
	term.Closed(p)
	term.Beta(p)
	term.Eta(p)
	term.Frees(p)
	term.Vars(p)
	term.TypeVariables(p)
	term.MaxIndex(p)
	term.Raise(p, n)
	term.Variant(g.name(), g.sort())
	term.Imp(p, q)
	term.All(p, q)
	term.Protect(p)
	term.IsImp(p)
	term.IsAll(p)
	term.IsEq(p)
	term.IsProtect(p)
	term.Strip(p)
	term.Spine(p)
	term.Apps(p, []api.Term{q, p})
}

// P1: no function panics, whatever it is given; with an error each other result is its zero value.
func TestP1Garbage(t *testing.T) {
	right := map[string]int{}
	for seed := range 8000 {
		m := garbage{rand.New(rand.NewSource(int64(seed)))}.results()
		for name, l := range m {
			last := len(l) - 1
			if l[last].(api.Errno) == api.OK {
				right[name]++
				continue
			}
			for _, v := range l[:last] {
				if x := reflect.ValueOf(v); !x.IsZero() {
					t.Fatal(seed, name, l)
				}
			}
		}
	}
	for _, name := range []string{"sort.Check", "sort.Normal", "sort.Args", "sort.Ground", "types.Check", "types.Match", "types.Unify", "types.Text", "types.Read", "term.Check", "term.TypeOf", "term.Norm", "term.Eq", "term.Text", "theory.Check", "theory.Merge", "theory.Extend", "theory.Define", "theory.Overload", "theory.Unfolded"} {
		if right[name] < 3 {
			t.Error("hardly tried", name, right[name])
		}
	}
}
