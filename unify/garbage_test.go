package unify

import (
	"math/rand"
	"testing"

	"triforium/api"
	"triforium/pattern"
)

// wild returns a term of any kinds, numbers and Kids.
func wild(r *rand.Rand, depth int) api.Term {
	t := api.Term{Op: r.Intn(8), Name: []string{"", "F", "x", "c", "z"}[r.Intn(5)], Num: r.Intn(4) - 1}
	if r.Intn(3) > 0 {
		t.Type = typ([]string{"N", "N>N", "?a", "?a{c}", "P", "L?a", "'k"}[r.Intn(7)])
	}
	if depth > 0 {
		n := r.Intn(3)
		if t.Op == api.App {
			n = 2
		}
		for range n {
			t.Kids = append(t.Kids, wild(r, depth-1))
		}
	}
	return t
}

// Functions of any arguments do not panic.
func TestP101Garbage(t *testing.T) {
	thy := small()
	for seed := range 20000 {
		r := rand.New(rand.NewSource(int64(seed)))
		l := []pattern.Pair{{A: wild(r, 3), B: wild(r, 3)}}
		if us, more, e := First(thy, l, 3, 3); e != api.OK && (us != nil || more) {
			t.Fatal(seed)
		}
		for range All(thy, l, r.Intn(70)-5) {
			break
		}
		if i, left, ok, e := Simplify(thy, l); (e != api.OK || !ok) && (ok || left != nil || len(i.Terms)+len(i.Types) > 0) {
			t.Fatal(seed)
		}
		u := Unifier{Flex: l, Inst: api.Inst{Terms: []api.TermBind{{Name: "F", Index: r.Intn(3), To: wild(r, 2)}}}}
		if i, e := Close(thy, u); e != api.OK && len(i.Terms)+len(i.Types) > 0 {
			t.Fatal(seed)
		}
	}
}
