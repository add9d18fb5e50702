package net

import (
	"fmt"
	"math"
	"math/rand"
	"slices"
	"strings"
	"testing"

	"triforium/api"
	"triforium/term"
)

func con(name string, l ...api.Term) api.Term {
	return apps(api.Term{Op: api.Const, Name: name}, l...)
}

func free(name string, l ...api.Term) api.Term {
	return apps(api.Term{Op: api.Free, Name: name}, l...)
}

func va(name string, l ...api.Term) api.Term { return apps(api.Term{Op: api.Var, Name: name}, l...) }

func bound(n int, l ...api.Term) api.Term { return apps(api.Term{Op: api.Bound, Num: n}, l...) }

func abs(t api.Term) api.Term { return api.Term{Op: api.Abs, Kids: []api.Term{t}} }

func apps(f api.Term, l ...api.Term) api.Term {
	for _, a := range l {
		f = api.Term{Op: api.App, Kids: []api.Term{f, a}}
	}
	return f
}

func TestP111Key(t *testing.T) {
	a, x := con("a"), va("x")
	for i, c := range []struct {
		t    api.Term
		want string
	}{
		{con("f", a, x), "cf/2 ca/0 *"}, {a, "ca/0"}, {x, "*"}, {va("x", a), "*"}, {free("f", con("g", a), a), "ff/2 cg/1 ca/0 ca/0"}, {bound(12), "b12/0"}, {bound(-7, a), "b-7/1 ca/0"}, {bound(math.MinInt), "b-9223372036854775808/0"},
		{abs(a), "*"}, {apps(abs(a), a), "*"}, {con("f", abs(a), con("g", abs(a))), "cf/2 * cg/1 *"}, {api.Term{}, "*"}, {api.Term{Op: 7}, "*"}, {api.Term{Op: api.App}, "*"}, {api.Term{Op: api.App, Kids: []api.Term{a}}, "*"}, {api.Term{Op: api.App, Kids: []api.Term{a, a, a}}, "*"},
		{apps(api.Term{Op: api.App, Kids: []api.Term{a}}, a), "*"}, {api.Term{Op: api.Const, Name: "c", Kids: []api.Term{a}}, "cc/0"}, {con("", free("")), "c/1 f/0"}, {con("f/2 ca"), "cf/2 ca/0"},
		{con("f", slices.Repeat([]api.Term{a}, 11)...), "cf/11" + strings.Repeat(" ca/0", 11)},
	} {
		if s := strings.Join(Key(c.t), " "); s != c.want {
			t.Error(i, s)
		}
	}
}

func values[V any](seq func(func(V) bool)) string {
	var l []V
	seq(func(v V) bool {
		l = append(l, v)
		return true
	})
	return strings.Trim(fmt.Sprint(l), "[]")
}

func TestP111Example(t *testing.T) {
	a, b, x := con("a"), con("b"), va("x")
	n, new1 := New[int]().Insert(con("f", a, x), 1)
	n, new2 := n.Insert(x, 2)
	if !new1 || !new2 || n.Len() != 2 || values(n.All()) != "1 2" {
		t.Error(n.Len(), values(n.All()))
	}
	for i, c := range []struct {
		t            api.Term
		match, unify string
	}{
		{con("f", a, b), "1 2", "1 2"}, {con("f", b, b), "2", "2"}, {con("f", x, b), "2", "1 2"}, {x, "2", "1 2"}, {abs(a), "1 2", "1 2"}, {con("f", abs(a), b), "1 2", "1 2"}, {con("f", a), "2", "2"}, {api.Term{}, "1 2", "1 2"}, {free("f", a, b), "2", "2"}, {con("f", va("y", a), b), "2", "1 2"},
	} {
		if m, u := values(n.Match(c.t)), values(n.Unify(c.t)); m != c.match || u != c.unify {
			t.Error(i, m, u)
		}
	}
}

// A nil Net has no entries, and is none of the results.
func TestP111Nil(t *testing.T) {
	var n *Net[string]
	a := con("a")
	if n.Len() != 0 || values(n.All())+values(n.Match(a))+values(n.Unify(a)) != "" {
		t.Error("entries")
	}
	d, ok := n.Delete(a, "x")
	if d == nil || ok || d.Len() != 0 {
		t.Error("Delete")
	}
	if m := n.Merge(nil); m == nil || m.Len() != 0 {
		t.Error("Merge")
	}
	i, ok := n.Insert(a, "x")
	if i == nil || !ok || i.Len() != 1 || n.Merge(i).Len() != 1 || i.Merge(n).Len() != 1 {
		t.Error("Insert")
	}
	zero := &Net[string]{}
	if z, ok := zero.Insert(a, "x"); !ok || z.Len() != 1 || zero.Len() != 0 {
		t.Error("the zero value")
	}
	if New[string]() == nil || New[string]().Len() != 0 {
		t.Error("New")
	}
}

func TestP114Entries(t *testing.T) {
	a, b := con("a"), con("b")
	n, _ := New[int]().Insert(a, 1)
	n, _ = n.Insert(b, 1)
	n, _ = n.Insert(a, 2)
	again, ok := n.Insert(a, 1)
	if ok || again.Len() != 3 || values(again.All()) != "1 1 2" {
		t.Error("an entry that was there", ok, values(again.All()))
	}
	// terms with one key are one entry
	if same, ok := n.Insert(api.Term{Op: api.Const, Name: "a", Num: 5}, 2); ok || same.Len() != 3 {
		t.Error("a term with the same key")
	}
	d, ok := n.Delete(a, 1)
	if !ok || d.Len() != 2 || values(d.All()) != "1 2" || values(d.Match(a)) != "2" || values(d.Match(b)) != "1" {
		t.Error(values(d.All()))
	}
	if e, ok := d.Delete(a, 1); ok || e.Len() != 2 || values(e.All()) != "1 2" {
		t.Error("an entry that was not there")
	}
	if e, ok := d.Delete(con("c"), 1); ok || e.Len() != 2 {
		t.Error("a key that was not there")
	}
	back, _ := d.Insert(a, 1)
	if values(back.All()) != "1 2 1" || values(back.Match(a)) != "2 1" {
		t.Error("it is the last one again", values(back.All()))
	}
	m, _ := New[int]().Insert(con("c"), 7)
	m, _ = m.Insert(a, 2)
	m, _ = m.Insert(b, 9)
	if u := n.Merge(m); u.Len() != 5 || values(u.All()) != "1 1 2 7 9" || values(u.Match(b)) != "1 9" {
		t.Error(values(u.All()))
	}
	if u := m.Merge(n); values(u.All()) != "7 2 9 1 1" {
		t.Error(values(u.All()))
	}
	if values(n.All()) != "1 1 2" || values(m.All()) != "7 2 9" {
		t.Error("nets do not change")
	}
}

// Values of any comparable type: also such as are not equal to themselves, and those in interfaces that cannot be compared.
func TestP111Values(t *testing.T) {
	a := con("a")
	n, _ := New[float64]().Insert(a, math.NaN())
	n, ok := n.Insert(a, math.NaN())
	if !ok || n.Len() != 2 {
		t.Error("not equal to itself")
	}
	if _, ok := n.Delete(a, math.NaN()); ok {
		t.Error("not equal to itself")
	}
	m, ok := New[any]().Insert(a, []int{1})
	m, ok2 := m.Insert(a, []int{1})
	m, ok3 := m.Insert(a, "x")
	if _, again := m.Insert(a, "x"); !ok || !ok2 || !ok3 || again || m.Len() != 3 {
		t.Error("values in interfaces")
	}
}

// mayMatch and mayUnify are what the document says.
func mayMatch(p, t api.Term) bool {
	k, n, args := naiveKind(p)
	k2, n2, args2 := naiveKind(t)
	if k != 'r' || k2 == 'a' {
		return true
	}
	return k2 == 'r' && n == n2 && slices.EqualFunc(args, args2, mayMatch)
}

func mayUnify(a, b api.Term) bool {
	k, n, args := naiveKind(a)
	k2, n2, args2 := naiveKind(b)
	return k != 'r' || k2 != 'r' || n == n2 && slices.EqualFunc(args, args2, mayUnify)
}

func naiveKind(t api.Term) (rune, string, []api.Term) {
	var args []api.Term
	for t.Op == api.App && len(t.Kids) == 2 {
		args = append([]api.Term{t.Kids[1]}, args...)
		t = t.Kids[0]
	}
	switch t.Op {
	case api.Var:
		return 'f', "", args
	case api.Const, api.Free, api.Bound:
		return 'r', fmt.Sprint(t.Op, t.Name, t.Num, len(args)), args
	}
	return 'a', "", args
}

func randomTerm(r *rand.Rand, depth int) api.Term {
	if depth > 0 && r.Intn(3) > 0 {
		switch r.Intn(8) {
		case 0:
			return abs(randomTerm(r, depth-1))
		case 1:
			return apps(randomTerm(r, depth-1), randomTerm(r, depth-1))
		}
		heads := []api.Term{con("f"), con("f"), con("g"), free("f"), bound(0), va("x")}
		var args []api.Term
		for range 1 + r.Intn(2) {
			args = append(args, randomTerm(r, depth-1))
		}
		return apps(heads[r.Intn(len(heads))], args...)
	}
	leaves := []api.Term{con("a"), con("b"), free("a"), bound(r.Intn(2)), va("x"), va("y"), con("a"), {}, {Op: api.App, Kids: []api.Term{{}}}}
	return leaves[r.Intn(len(leaves))]
}

// Nets find what the document says, in order, whatever has been put in and taken away.
func TestP113Random(t *testing.T) {
	type entry struct {
		t api.Term
		v int
	}
	for seed := range 400 {
		r := rand.New(rand.NewSource(int64(seed)))
		n := New[int]()
		var l []entry
		same := func(e entry, k api.Term, v int) bool { return slices.Equal(Key(e.t), Key(k)) && e.v == v }
		for range 40 {
			k, v := randomTerm(r, 3), r.Intn(3)
			if len(l) > 0 && r.Intn(3) == 0 {
				k = l[r.Intn(len(l))].t
			}
			i := slices.IndexFunc(l, func(e entry) bool { return same(e, k, v) })
			if r.Intn(4) == 0 {
				now, ok := n.Delete(k, v)
				if ok != (i >= 0) {
					t.Fatal(seed)
				}
				if ok {
					l = slices.Delete(slices.Clone(l), i, i+1)
				}
				n = now
				continue
			}
			now, ok := n.Insert(k, v)
			if ok != (i < 0) {
				t.Fatal(seed)
			}
			if ok {
				l = append(l, entry{k, v})
			}
			n = now
		}
		for range 20 {
			k := randomTerm(r, 3)
			match, unify, all := []int{}, []int{}, []int{}
			for _, e := range l {
				all = append(all, e.v)
				if mayMatch(e.t, k) {
					match = append(match, e.v)
				}
				if mayUnify(e.t, k) {
					unify = append(unify, e.v)
				}
				if mayMatch(e.t, k) && !mayUnify(e.t, k) || mayUnify(e.t, k) != mayUnify(k, e.t) {
					t.Fatal("the relations")
				}
				one, _ := New[int]().Insert(e.t, 1)
				other, _ := New[int]().Insert(k, 1)
				if values(one.Unify(k)) != values(other.Unify(e.t)) {
					t.Fatal("whichever stands in the net")
				}
			}
			if values(n.Match(k)) != strings.Trim(fmt.Sprint(match), "[]") || values(n.Unify(k)) != strings.Trim(fmt.Sprint(unify), "[]") || values(n.All()) != strings.Trim(fmt.Sprint(all), "[]") || n.Len() != len(l) {
				t.Fatal(seed, k)
			}
		}
	}
}

// What a pattern becomes is matched by its entry.
func TestP112Random(t *testing.T) {
	steps := 0
	for seed := range 20000 {
		r := rand.New(rand.NewSource(int64(seed)))
		p := randomTerm(r, 3)
		n, _ := New[int]().Insert(p, 1)
		i := api.Inst{Terms: []api.TermBind{{Name: "x", To: randomTerm(r, 2)}, {Name: "y", To: randomTerm(r, 2)}}}
		now := term.Apply(i, p)
		for range 5 {
			if values(n.Match(now)) != "1" || values(n.Unify(now)) != "1" {
				t.Fatal(seed, p, now)
			}
			before := now
			now = randomStep(r, now)
			if !term.Equal(before, now) {
				steps++
			}
		}
	}
	if steps < 500 {
		t.Error(steps)
	}
}

// randomStep makes a beta or an eta step somewhere, if there is one.
func randomStep(r *rand.Rand, t api.Term) api.Term {
	if b, ok := term.Beta(t); ok && r.Intn(2) == 0 {
		return b
	}
	if t.Op == api.Abs && len(t.Kids) == 1 && r.Intn(2) == 0 {
		if b := t.Kids[0]; b.Op == api.App && len(b.Kids) == 2 && b.Kids[1].Op == api.Bound && b.Kids[1].Num == 0 && len(term.Eta(t).Kids) != 1 {
			return term.Lift(b.Kids[0], -1)
		}
	}
	t.Kids = slices.Clone(t.Kids)
	for i := range t.Kids {
		t.Kids[i] = randomStep(r, t.Kids[i])
	}
	return t
}

// Whatever is made of a net, and however sequences are left, it is what it was.
func TestP115Still(t *testing.T) {
	r := rand.New(rand.NewSource(1))
	var nets []*Net[int]
	var texts []string
	look := func(n *Net[int]) string {
		return values(n.All()) + "|" + values(n.Match(con("f", con("a"), con("a")))) + "|" + values(n.Unify(va("x")))
	}
	n := New[int]()
	for i := range 200 {
		nets, texts = append(nets, n), append(texts, look(n))
		switch k := randomTerm(r, 2); r.Intn(4) {
		case 0:
			n, _ = n.Delete(k, r.Intn(3))
		case 1:
			n = n.Merge(nets[r.Intn(i+1)])
		default:
			n, _ = n.Insert(k, r.Intn(3))
		}
	}
	for i, n := range nets {
		if look(n) != texts[i] {
			t.Error(i)
		}
	}
	last := nets[len(nets)-1]
	all := strings.Fields(values(last.All()))
	for stop := range len(all) {
		seen := 0
		for v := range last.All() {
			if fmt.Sprint(v) != all[seen] {
				t.Error(stop)
			}
			if seen++; seen > stop {
				break
			}
		}
		for range last.Unify(va("x")) {
			break
		}
	}
}

// Terms that are nested, or have arguments, as far as the document's bound.
func TestP111Nested(t *testing.T) {
	deep := con("a")
	for range 1 << 16 {
		deep = con("f", deep)
	}
	wide := con("f", slices.Repeat([]api.Term{con("a")}, 1<<16)...)
	n, _ := New[int]().Insert(deep, 1)
	n, _ = n.Insert(wide, 2)
	if values(n.Match(deep)) != "1" || values(n.Unify(wide)) != "2" || values(n.Unify(va("x"))) != "1 2" || n.Merge(n).Len() != 2 {
		t.Error("nested")
	}
	if n, ok := n.Delete(deep, 1); !ok || values(n.All()) != "2" {
		t.Error("Delete")
	}
}

// A sequence keeps nothing of the term.
func TestP111Kept(t *testing.T) {
	n, _ := New[int]().Insert(con("f", con("a")), 1)
	k := con("f", con("a"))
	m := n.Match(k)
	k.Kids[1].Name = "b"
	if values(m) != "1" {
		t.Error("kept")
	}
}
