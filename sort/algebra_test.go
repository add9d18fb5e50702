package sort

import (
	"math/rand"
	"slices"
	"testing"

	"triforium/api"
)

// randomTheory returns a right theory with a few classes and constructors whose arities are complete.
func randomTheory(r *rand.Rand) api.Theory {
	t := api.Theory{Name: "T"}
	all := names("k", 1+r.Intn(6))
	for i, name := range all {
		var supers []string
		for _, s := range all[:i] {
			if r.Intn(3) == 0 {
				supers = append(supers, s)
			}
		}
		t.Classes = append(t.Classes, api.Class{Name: name, Supers: supers})
	}
	r.Shuffle(len(all), func(i, j int) { all[i], all[j] = all[j], all[i] })
	for _, name := range names("t", 1+r.Intn(4)) {
		t.Types = append(t.Types, api.TypeDecl{Name: name, Arity: r.Intn(3)})
	}
	for _, d := range t.Types {
		t.Arities = append(t.Arities, randomArities(r, t, d)...)
	}
	return t
}

// randomArities goes through the classes, each behind its superclasses, and takes at least what the arities of these want.
func randomArities(r *rand.Rand, t api.Theory, d api.TypeDecl) []api.Arity {
	var out []api.Arity
	of := map[string][][]string{}
	for _, c := range t.Classes {
		sorts := make([][]string, d.Arity)
		ok := r.Intn(4) > 0
		for _, s := range c.Supers {
			above, has := of[s]
			ok = ok && has
			for i := range above {
				sorts[i] = append(sorts[i], above[i]...)
			}
		}
		if !ok {
			continue
		}
		for i := range sorts {
			if r.Intn(2) == 0 {
				sorts[i] = append(sorts[i], t.Classes[r.Intn(len(t.Classes))].Name)
			}
			sorts[i], _ = Normal(t, sorts[i])
		}
		of[c.Name] = sorts
		out = append(out, api.Arity{Type: d.Name, Class: c.Name, Sorts: sorts})
	}
	return out
}

// allSorts returns all sets of the classes of a theory.
func allSorts(t api.Theory) [][]string {
	var l [][]string
	for set := range 1 << len(t.Classes) {
		var s []string
		for i, c := range t.Classes {
			if set>>i&1 == 1 {
				s = append(s, c.Name)
			}
		}
		l = append(l, s)
	}
	return l
}

// below is what the document says of classes, word by word.
func below(t api.Theory, a, b string) bool {
	if a == b {
		return true
	}
	for _, c := range t.Classes {
		if c.Name == a {
			return slices.ContainsFunc(c.Supers, func(s string) bool { return below(t, s, b) })
		}
	}
	return false
}

func less(t api.Theory, a, b []string) bool {
	for _, y := range b {
		if !slices.ContainsFunc(a, func(x string) bool { return below(t, x, y) }) {
			return false
		}
	}
	return true
}

// eachTheory runs a test for many random theories.
func eachTheory(t *testing.T, n int, f func(*rand.Rand, api.Theory)) {
	for seed := range n {
		r := rand.New(rand.NewSource(int64(seed)))
		thy := randomTheory(r)
		if e := Check(thy); e != api.OK {
			t.Fatal("the generator makes wrong theories", seed, e)
		}
		f(r, thy)
		if t.Failed() {
			t.Fatal("seed", seed)
		}
	}
}

func TestP12Order(t *testing.T) {
	eachTheory(t, 60, func(r *rand.Rand, thy api.Theory) {
		l := allSorts(thy)
		for _, a := range l {
			if !Less(thy, a, a) {
				t.Error("reflexive", a)
			}
			n, e := Normal(thy, a)
			if e != api.OK || !Less(thy, n, a) || !Less(thy, a, n) {
				t.Error("Normal", a, n, e)
			}
			for range 8 {
				b, c := l[r.Intn(len(l))], l[r.Intn(len(l))]
				if Less(thy, a, b) != less(thy, a, b) {
					t.Error("Less", a, b)
				}
				if Less(thy, a, b) && Less(thy, b, c) && !Less(thy, a, c) {
					t.Error("transitive", a, b, c)
				}
				m, e := Meet(thy, a, b)
				if e != api.OK || !Less(thy, m, a) || !Less(thy, m, b) || Less(thy, c, m) != (Less(thy, c, a) && Less(thy, c, b)) {
					t.Error("Meet", a, b, m, e)
				}
			}
		}
	})
}

func TestP13Least(t *testing.T) {
	eachTheory(t, 60, func(r *rand.Rand, thy api.Theory) {
		l := allSorts(thy)
		for _, a := range l {
			n, _ := Normal(thy, a)
			again, e := Normal(thy, n)
			if e != api.OK || !slices.Equal(n, again) || !slices.IsSorted(n) {
				t.Error("idempotent", a, n, again)
			}
			for i, x := range n {
				for j, y := range n {
					if i != j && below(thy, x, y) {
						t.Error("not normal", a, n)
					}
				}
			}
			twice := append(slices.Clone(a), a...)
			r.Shuffle(len(twice), func(i, j int) { twice[i], twice[j] = twice[j], twice[i] })
			if m, _ := Normal(thy, twice); !slices.Equal(m, n) {
				t.Error("in another order", a, m, n)
			}
			for _, b := range l {
				if m, _ := Normal(thy, b); (less(thy, a, b) && less(thy, b, a)) != slices.Equal(m, n) {
					t.Error("equal sorts", a, b)
				}
			}
		}
	})
}

func TestP14Arguments(t *testing.T) {
	eachTheory(t, 100, func(r *rand.Rand, thy api.Theory) {
		l := allSorts(thy)
		for _, d := range thy.Types {
			for range 40 {
				checkArguments(t, thy, d, l[r.Intn(len(l))], l[r.Intn(len(l))])
			}
		}
	})
}

func checkArguments(t *testing.T, thy api.Theory, d api.TypeDecl, a, b []string) {
	m, _ := Meet(thy, a, b)
	x, e := Args(thy, d.Name, a)
	y, f := Args(thy, d.Name, b)
	z, g := Args(thy, d.Name, m)
	if (g == api.OK) != (e == api.OK && f == api.OK) {
		t.Error("the meet has arguments just if both have", a, b, e, f, g)
	}
	if Less(thy, a, b) && e == api.OK {
		for i := range x {
			if f != api.OK || !Less(thy, x[i], y[i]) {
				t.Error("narrower", a, b, x, y, f)
			}
		}
	}
	for i := range z {
		if both, _ := Meet(thy, x[i], y[i]); !slices.Equal(both, z[i]) {
			t.Error("meet of both", a, b, z[i], both)
		}
	}
	if e == api.OK && len(x) != d.Arity {
		t.Error("number", x)
	}
}

// hasSort is what the document says of types without variables, word by word.
func hasSort(thy api.Theory, x api.Type, s []string) bool {
	for _, c := range s {
		i := slices.IndexFunc(thy.Arities, func(a api.Arity) bool { return a.Type == x.Name && a.Class == c })
		if i < 0 {
			return false
		}
		for k, a := range x.Args {
			if !hasSort(thy, a, thy.Arities[i].Sorts[k]) {
				return false
			}
		}
	}
	return true
}

// firstOf is Ground, word by word.
func firstOf(thy api.Theory, s []string, depth int) (api.Type, bool) {
	if depth == 0 {
		return api.Type{}, false
	}
next:
	for _, d := range thy.Types {
		sorts, e := Args(thy, d.Name, s)
		if e != api.OK {
			continue
		}
		x := api.Type{Op: api.TCon, Name: d.Name}
		for _, s := range sorts {
			a, ok := firstOf(thy, s, depth-1)
			if !ok {
				continue next
			}
			x.Args = append(x.Args, a)
		}
		return x, true
	}
	return api.Type{}, false
}

func TestP15Ground(t *testing.T) {
	found := 0
	eachTheory(t, 60, func(r *rand.Rand, thy api.Theory) {
		for _, s := range allSorts(thy) {
			before := false
			for depth := range 4 {
				x, ok, e := Ground(thy, s, depth)
				want, has := firstOf(thy, s, depth)
				if e != api.OK || ok != has || flatText(x) != flatText(want) {
					t.Error("first", s, depth, ok, has, e)
				}
				if ok && !hasSort(thy, x, s) {
					t.Error("has not the sort", s, flatText(x))
				}
				if before && !ok {
					t.Error("a greater depth finds none", s, depth)
				}
				before = ok
				if ok {
					found++
				}
			}
		}
	})
	if found < 1000 {
		t.Error("few types were found", found)
	}
}
