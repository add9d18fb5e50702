package sat

import (
	"math/rand"
	"testing"

	"triforium/api"
	"triforium/classical"
	"triforium/hol"
	"triforium/simp"
	"triforium/tableau"
	"triforium/term"
	"triforium/testlang"
)

// What the provers of this and the lower layers prove of a formula without quantifiers is what its values say; what the simplifier makes of it has the same ones.
func TestP5TwoRoads(t *testing.T) {
	m := rand.New(rand.NewSource(5))
	thy := small()
	set, e := simp.Standard(thy)
	if e != api.OK {
		t.Fatal(e)
	}
	yes := 0
	for range 60 {
		x := formula(m, 1+m.Intn(6))
		if m.Intn(4) == 0 {
			x = hol.Implies(x, hol.Or(x, formula(m, 2)))
		}
		text := testlang.Text(thy, x)
		want, _, e := classical.Tautology(x)
		if e != api.OK {
			t.Fatal(text, e)
		}
		if want {
			yes++
		}
		if _, e := Tautology(thy, x, 100000); want != (e == api.OK) {
			t.Error("sat", text, want, e)
		}
		if _, e := tableau.Prove(thy, x, 2, tableau.MaxNodes); want != (e == api.OK) {
			t.Error("tableau", text, want, e)
		}
		if _, e := classical.Prove(thy, nil, hol.Truth(x), 3); !want && e == api.OK {
			t.Error("classical", text)
		}
		th, e := simp.Rewrite(thy, set, nil, x, 3, 2000)
		if e == api.ErrFuel || e == api.ErrLarge {
			continue // an assumption b = f b is an equation without end
		}
		if e != api.OK {
			t.Error("simp", text, e)
			continue
		}
		_, y, _ := term.IsEq(th.Prop())
		if now, _, e := classical.Tautology(y); e != api.OK || now != want {
			t.Error("simp", text, testlang.Text(thy, y))
		}
	}
	if yes < 10 {
		t.Error(yes)
	}
}
