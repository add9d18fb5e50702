package pattern

import (
	"math"
	"math/rand"
	"testing"

	"triforium/api"
)

// wild returns a term of any kinds, numbers and Kids.
func wild(r *rand.Rand, depth int) api.Term {
	names := []string{"", "F", "x", "c", "z", "eq", "\xff", "imp"}
	numbers := []int{0, 0, 0, 1, 2, -1, math.MinInt, math.MaxInt, 1000000}
	t := api.Term{Op: r.Intn(8) - 1 + r.Intn(2), Name: names[r.Intn(len(names))], Num: numbers[r.Intn(len(numbers))]}
	if r.Intn(3) > 0 {
		t.Type = wildType(r, 2)
	}
	if depth > 0 {
		n := r.Intn(3)
		if t.Op == api.App {
			n = 2
		}
		for range n {
			t.Kids = append(t.Kids, wild(r, depth-1))
		}
	}
	return t
}

func wildType(r *rand.Rand, depth int) api.Type {
	if r.Intn(2) == 0 {
		return typ([]string{"N", "N>N", "?a", "?a{c}", "P", "L?a", "'k"}[r.Intn(7)])
	}
	t := api.Type{Op: r.Intn(5), Name: []string{"", "fun", "nat", "list", "a"}[r.Intn(5)], Index: r.Intn(3) - 1}
	if r.Intn(4) == 0 {
		t.Sort = []string{[]string{"c", "d", "", "x"}[r.Intn(4)]}
	}
	if depth > 0 {
		for range r.Intn(3) {
			t.Args = append(t.Args, wildType(r, depth-1))
		}
	}
	return t
}

func wildInst(r *rand.Rand) api.Inst {
	var i api.Inst
	for range r.Intn(3) {
		i.Types = append(i.Types, api.TypeBind{Name: []string{"a", "", "b"}[r.Intn(3)], Index: r.Intn(2), To: wildType(r, 2)})
		i.Terms = append(i.Terms, api.TermBind{Name: []string{"F", "x", ""}[r.Intn(3)], Index: r.Intn(3), To: wild(r, 2)})
	}
	return i
}

// Functions of any arguments do not panic: with an error they return nothing else.
func TestP91Garbage(t *testing.T) {
	thy := small()
	for seed := range 12000 {
		r := rand.New(rand.NewSource(int64(seed)))
		a, b := wild(r, 4), wild(r, 4)
		if r.Intn(3) == 0 {
			b = a
		}
		l := []Pair{{a, b}, {wild(r, 1), wild(r, 1)}}[:1+r.Intn(2)]
		Is(a)
		if i, e := Unify(thy, l); e != api.OK && len(i.Types)+len(i.Terms) > 0 {
			t.Fatal(seed)
		}
		if i, e := Match(thy, a, b); e != api.OK && len(i.Types)+len(i.Terms) > 0 {
			t.Fatal(seed)
		}
		i, k := wildInst(r), wildInst(r)
		Solves(thy, i, l)
		if c, e := Compose(i, k); e != api.OK && len(c.Types)+len(c.Terms) > 0 {
			t.Fatal(seed)
		}
		if ok, e := Least(thy, i, k, []api.Term{a, b}); ok && e != api.OK {
			t.Fatal(seed)
		}
	}
}
