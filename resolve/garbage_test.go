package resolve

import (
	"math/rand"
	"testing"

	"triforium/api"
	"triforium/term"
)

// wild returns a term of any kinds, numbers and Kids, with what looks like !! and ==>.
func wild(r *rand.Rand, depth int) api.Term {
	t := api.Term{Op: r.Intn(8), Name: []string{"", "imp", "all", "x", "imp", "all"}[r.Intn(6)], Num: r.Intn(4) - 1}
	if depth == 0 {
		return t
	}
	switch r.Intn(4) {
	case 0:
		return term.Imp(wild(r, depth-1), wild(r, depth-1))
	case 1:
		return term.All(api.Term{Op: api.Free, Name: "v"}, wild(r, depth-1))
	}
	for range r.Intn(4) {
		t.Kids = append(t.Kids, wild(r, depth-1))
	}
	return t
}

// Split and Whole take any terms.
func TestP123Garbage(t *testing.T) {
	for seed := range 20000 {
		r := rand.New(rand.NewSource(int64(seed)))
		x := wild(r, 5)
		s := Split(x)
		w := Whole(s)
		again := Split(w)
		if len(again.Params) != len(s.Params) || len(again.Hyps) != len(s.Hyps) || !term.Equal(again.Concl, s.Concl) || !term.Equal(Whole(again), w) {
			t.Fatal(seed, x)
		}
	}
	deep := api.Term{Op: api.Const, Name: "A"}
	for range 1 << 14 {
		deep = api.Term{Op: api.App, Kids: []api.Term{{Op: api.App, Kids: []api.Term{{Op: api.Const, Name: "imp"}, {Op: api.Const, Name: "B"}}}, deep}}
	}
	if s := Split(deep); len(s.Hyps) != 1<<14 {
		t.Error(len(s.Hyps))
	}
}
