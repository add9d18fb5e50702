package sat

import (
	"math/rand"
	"slices"
	"strings"
	"sync"
	"testing"

	"triforium/api"
	"triforium/hol"
	"triforium/term"
	"triforium/testlang"
	"triforium/theory"
)

// of reads clauses: `1 -2, 3`.
func of(s string) []Clause {
	var out []Clause
	for _, part := range strings.Split(s, ",") {
		var c Clause
		for _, w := range strings.Fields(part) {
			if w == "0" {
				continue
			}
			n, sign := 0, 1
			for _, b := range w {
				if b == '-' {
					sign = -1
				} else {
					n = 10*n + int(b-'0')
				}
			}
			c = append(c, n*sign)
		}
		out = append(out, c)
	}
	return out
}

func TestP251Check(t *testing.T) {
	for i, c := range []struct {
		l    []Clause
		want api.Errno
	}{
		{nil, api.OK}, {[]Clause{nil}, api.OK}, {of("1 -2 60, -1"), api.OK}, {[]Clause{{0}}, ErrClause}, {[]Clause{{61}}, ErrClause}, {[]Clause{{-61}}, ErrClause}, {[]Clause{{2, 1}}, ErrClause}, {[]Clause{{1, 1}}, ErrClause}, {[]Clause{{1, -1}}, ErrClause}, {[]Clause{{-2, 1}}, ErrClause}, {[]Clause{{1}, {-1 << 63}}, ErrClause}, {[]Clause{{1<<63 - 1}}, ErrClause},
		{slices.Repeat([]Clause{{1}}, 500), api.OK}, {slices.Repeat([]Clause{{0}}, 501), api.ErrCount},
	} {
		if e := Check(c.l); e != c.want {
			t.Error(i, e, "not", c.want)
		}
		if _, e := Solve(c.l, -1); e != c.want && c.want != api.OK || c.want == api.OK && e != api.ErrRange {
			t.Error(i, e)
		}
		if _, k, e := Replay(c.l, make([]Step, MaxSteps+1)); k != 0 || e != c.want && c.want != api.OK || c.want == api.OK && e != api.ErrCount {
			t.Error(i, e)
		}
	}
}

func TestP251Replay(t *testing.T) {
	l := of("1, -1 2, -2")
	made, at, e := Replay(l, []Step{{0, 1, 1}, {3, 2, 2}})
	if e != api.OK || at != 0 || len(made) != 2 || !slices.Equal(made[0], Clause{2}) || len(made[1]) != 0 {
		t.Error(made, at, e)
	}
	for _, c := range []struct {
		l    string
		p    []Step
		at   int
		want api.Errno
	}{
		{"1, -1 2, -2", []Step{{1, 0, 1}}, 0, ErrProof}, {"1, -1 2, -2", []Step{{0, 1, 1}, {0, 1, 2}}, 1, ErrProof}, {"1, -1 2, -2", []Step{{0, 3, 1}}, 0, ErrProof}, {"1, -1 2, -2", []Step{{-1, 1, 1}}, 0, ErrProof}, {"1, -1 2, -2", []Step{{0, 1, 1}, {4, 2, 2}}, 1, ErrProof}, {"1, -1 2, -2", []Step{{1, 0, -1}}, 0, ErrProof}, {"1, -1 2, -2", []Step{{0, 1, 0}}, 0, ErrProof}, {"1 2, -1 -2", []Step{{0, 1, 1}}, 0, ErrProof}, {"1 2, -1 2", []Step{{0, 1, 1}}, 0, api.OK}, {"1 2 5, -1 -3 5", []Step{{0, 1, 1}}, 0, api.OK},
	} {
		made, at, e := Replay(of(c.l), c.p)
		if e != c.want || at != c.at || e != api.OK && made != nil {
			t.Error(c.l, c.p, at, e)
		}
		if e == api.OK && c.l[4] == '5' && !slices.Equal(made[0], Clause{2, -3, 5}) {
			t.Error(made)
		}
	}
}

func TestP253Trim(t *testing.T) {
	l := of("1, -1 2, -2, 3, 1 -3")
	p := []Step{{0, 1, 1}, {3, 4, 3}, {5, 2, 2}, {6, 1, 1}, {8, 2, 2}}
	got, e := Trim(l, p)
	if e != api.OK || !slices.Equal(got, []Step{{0, 1, 1}, {5, 2, 2}}) {
		t.Error(got, e)
	}
	if got, e := Trim(l, p[:2]); e != ErrProof || got != nil {
		t.Error(got, e)
	}
	if _, e := Trim(l, []Step{{}}); e != ErrProof {
		t.Error(e)
	}
	if got, e := Trim(append(of("0"), l...), nil); e != api.OK || len(got) != 0 {
		t.Error(got, e)
	}
	if _, e := Trim([]Clause{{0}}, p); e != ErrClause {
		t.Error(e)
	}
	if _, e := Trim(l, make([]Step, MaxSteps+1)); e != api.ErrCount {
		t.Error(e)
	}
	if got, e := Trim(l, append(p, Step{7, 7, 1})); e != ErrProof {
		t.Error("an error behind the empty clause", got, e)
	}
}

// hold reports whether values make clauses hold.
func hold(l []Clause, values []bool) bool {
	for _, c := range l {
		if !slices.ContainsFunc(c, func(n int) bool { return values[atomOf(n)] == (n > 0) }) {
			return false
		}
	}
	return true
}

// can reports whether some values of so many atoms make clauses hold.
func can(l []Clause, atoms int) bool {
	for n := range 1 << atoms {
		values := make([]bool, atoms+1)
		for a := range atoms {
			values[a+1] = n>>a&1 == 1
		}
		if hold(l, values) {
			return true
		}
	}
	return false
}

func chance(m *rand.Rand, atoms, clauses, length int) []Clause {
	var l []Clause
	for range clauses {
		var c Clause
		for a := 1; a <= atoms; a++ {
			if m.Intn(atoms) < length {
				c = append(c, a*(1-2*m.Intn(2)))
			}
		}
		if len(c) > 0 || m.Intn(5) == 0 {
			l = append(l, c)
		}
	}
	return l
}

// right holds a result against the clauses.
func right(t *testing.T, l []Clause, r Result) {
	t.Helper()
	if r.Holds {
		if len(r.Proof) > 0 || len(l) > 0 && !hold(l, r.Values) {
			t.Error(l, r)
		}
		return
	}
	made, _, e := Replay(l, r.Proof)
	if e != api.OK || r.Values != nil {
		t.Error(l, r, e)
		return
	}
	if len(made) == 0 && !slices.ContainsFunc(l, func(c Clause) bool { return len(c) == 0 }) || len(made) > 0 && len(made[len(made)-1]) > 0 {
		t.Error("no empty clause", l, r)
	}
	short, e := Trim(l, r.Proof)
	again, f := Trim(l, short)
	if e != api.OK || f != api.OK || !slices.Equal(short, again) {
		t.Error("Trim", e, f)
	}
}

func TestP252Solve(t *testing.T) {
	m := rand.New(rand.NewSource(252))
	yes, no := 0, 0
	for range 3000 {
		atoms := 1 + m.Intn(8)
		l := chance(m, atoms, m.Intn(5*atoms), 2+m.Intn(2))
		r, e := Solve(l, 1<<atoms)
		if e != api.OK || r.Holds != can(l, atoms) {
			t.Fatal(l, r, e)
		}
		right(t, l, r)
		if r.Holds {
			yes++
			greatest := 0
			for _, c := range l {
				for _, n := range c {
					greatest = max(greatest, atomOf(n))
				}
			}
			if greatest == 0 && r.Values != nil || greatest > 0 && len(r.Values) != greatest+1 || len(r.Values) > 0 && r.Values[0] {
				t.Error(l, r.Values)
			}
		} else {
			no++
		}
	}
	if yes < 500 || no < 500 {
		t.Error(yes, no)
	}
}

func TestP252Examples(t *testing.T) {
	r, e := Solve(of("1, -1 2, -2"), 10)
	if e != api.OK || r.Holds || len(r.Proof) != 2 {
		t.Error(r, e)
	}
	if _, e := Solve(of("1, -1"), 0); e != api.ErrFuel {
		t.Error(e)
	}
	if r, e := Solve(of("1, -1, 0"), 0); e != api.OK || r.Holds || r.Proof != nil {
		t.Error(r, e)
	}
	if r, e := Solve(nil, 0); e != api.OK || !r.Holds || r.Values != nil {
		t.Error(r, e)
	}
	for _, f := range []int{-1, 100001} {
		if _, e := Solve(nil, f); e != api.ErrRange {
			t.Error(e)
		}
	}
	// six things in five places
	at := func(i, j int) int { return 5*i + j + 1 }
	var l []Clause
	for i := range 6 {
		l = append(l, Clause{at(i, 0), at(i, 1), at(i, 2), at(i, 3), at(i, 4)})
		for k := range i {
			for j := range 5 {
				l = append(l, Clause{-at(k, j), -at(i, j)})
			}
		}
	}
	r, e = Solve(l, 100000)
	if e != api.OK || r.Holds {
		t.Fatal(e)
	}
	right(t, l, r)
	m := rand.New(rand.NewSource(60))
	for _, n := range []int{150, 240, 300, 500} {
		for range 4 {
			var l []Clause
			for range n {
				var c Clause
				for _, a := range m.Perm(60)[:3] {
					c = append(c, (a+1)*(1-2*m.Intn(2)))
				}
				slices.SortFunc(c, func(a, b int) int { return atomOf(a) - atomOf(b) })
				l = append(l, c)
			}
			r, e := Solve(l, 100000)
			if e != api.OK && e != api.ErrLarge {
				t.Error(n, e)
			}
			if e == api.OK {
				right(t, l, r)
			}
		}
	}
}

func TestP255More(t *testing.T) {
	m := rand.New(rand.NewSource(255))
	for range 300 {
		l := chance(m, 5, 8, 2)
		r, _ := Solve(l, 1000)
		if r.Holds && len(l) > 0 {
			if less, e := Solve(l[:len(l)-1], 1000); e != api.OK || !less.Holds {
				t.Error(l)
			}
		}
		if !r.Holds {
			if more, e := Solve(append(l, chance(m, 5, 2, 2)...), 1000); e != api.OK || more.Holds {
				t.Error(l)
			}
		}
	}
}

// What holds with the clauses holds with those of a proof.
func TestP253Follows(t *testing.T) {
	m := rand.New(rand.NewSource(253))
	for range 300 {
		l := chance(m, 5, 8, 2)
		r, e := Solve(l, 1000)
		if e != api.OK || r.Holds {
			continue
		}
		made, _, _ := Replay(l, r.Proof)
		for n := range 32 {
			values := []bool{false, n&1 > 0, n&2 > 0, n&4 > 0, n&8 > 0, n&16 > 0}
			if hold(l, values) && !hold(made, values) {
				t.Error(l)
			}
		}
	}
}

var small = sync.OnceValue(func() api.Theory {
	return testlang.Theory(hol.HOL(), "t", "p : t => bool; c : t; d : t", "")
})

func form(s string) api.Term { return testlang.Term(small(), "("+s+") :: bool") }

func TestP251Clauses(t *testing.T) {
	for _, c := range []struct {
		s, atoms string
		can      bool
	}{
		{"True", "", true}, {"False", "", false}, {"a", "a", true}, {"a & ~ a", "a", false}, {"(p c --> p d) & p c", "p c; p d", true}, {"(a = b) & a & ~ b", "a;b", false}, {"b | a", "b;a", true}, {"(c = d) & ~ (c = d)", "c = d", false}, {"(c = d) & ~ (d = c)", "c = d; d = c", true}, {"(ALL x. p x) & ~ p c", "ALL x. p x; p c", true}, {"~ ~ ~ True", "", false}, {"(a & a) = (a | a)", "a", true},
	} {
		l, atoms, e := Clauses(form(c.s))
		var want []api.Term
		for _, a := range strings.Split(c.atoms, ";") {
			if a != "" {
				want = append(want, form(a))
			}
		}
		if e != api.OK || Check(l) != api.OK || !slices.EqualFunc(atoms, want, term.Equal) {
			t.Error(c.s, e, len(atoms))
		}
		if r, e := Solve(l, 1000); e != api.OK || r.Holds != c.can {
			t.Error(c.s, r, e)
		}
	}
	if _, _, e := Clauses(api.Term{Op: api.Bound}); e != term.ErrLoose {
		t.Error(e)
	}
	if _, _, e := Clauses(testlang.Term(small(), "c")); e != api.ErrType {
		t.Error(e)
	}
	wide := form("a")
	for i := range 61 {
		wide = hol.And(api.Term{Op: api.Free, Name: "a" + string(rune('A'+i/10)) + string(rune('0'+i%10)), Type: hol.BoolType()}, wide)
	}
	if _, _, e := Clauses(wide); e != api.ErrLarge {
		t.Error(e)
	}
}

// formula makes a formula with some connectives.
func formula(m *rand.Rand, n int) api.Term {
	if n == 0 {
		return []api.Term{form("a"), form("b"), form("e"), form("p c"), hol.True(), hol.False()}[m.Intn(6)]
	}
	if m.Intn(4) == 0 {
		return hol.Not(formula(m, n-1))
	}
	k := m.Intn(n)
	x, y := formula(m, k), formula(m, n-1-k)
	eq, _ := hol.Equal(x, y)
	return []api.Term{hol.And(x, y), hol.Or(x, y), hol.Implies(x, y), eq}[m.Intn(4)]
}

// worth evaluates a formula.
func worth(x api.Term, atoms []api.Term, values []bool) bool {
	name, l := hol.Connective(x)
	arg := func(i int) bool { return worth(l[i], atoms, values) }
	switch name {
	case "True":
		return true
	case "False":
		return false
	case "Not":
		return !arg(0)
	case "And":
		return arg(0) && arg(1)
	case "Or":
		return arg(0) || arg(1)
	case "Implies":
		return !arg(0) || arg(1)
	case "Equal":
		return arg(0) == arg(1)
	}
	return values[slices.IndexFunc(atoms, func(a api.Term) bool { return term.Equal(a, x) })+1]
}

func TestP251ClausesRandom(t *testing.T) {
	m := rand.New(rand.NewSource(251))
	for range 400 {
		x := formula(m, m.Intn(14))
		l, atoms, e := Clauses(x)
		if e != api.OK || Check(l) != api.OK {
			t.Fatal(testlang.Text(small(), x), e)
		}
		some := false
		for n := range 1 << len(atoms) {
			values := make([]bool, len(atoms)+1)
			for i := range atoms {
				values[i+1] = n>>i&1 == 1
			}
			some = some || worth(x, atoms, values)
		}
		r, e := Solve(l, 100000)
		if e != api.OK || r.Holds != some {
			t.Error(testlang.Text(small(), x), r, e)
			continue
		}
		for len(r.Values) <= len(atoms) {
			r.Values = append(r.Values, false)
		}
		if some && !worth(x, atoms, r.Values) {
			t.Error(testlang.Text(small(), x), r)
		}
	}
}

func TestP254Tautology(t *testing.T) {
	m := rand.New(rand.NewSource(254))
	yes := 0
	for range 250 {
		x := formula(m, m.Intn(9))
		if m.Intn(3) == 0 {
			x = hol.Or(x, hol.Not(x))
		}
		_, atoms, _ := Clauses(x)
		all := true
		for n := range 1 << len(atoms) {
			values := make([]bool, len(atoms)+1)
			for i := range atoms {
				values[i+1] = n>>i&1 == 1
			}
			all = all && worth(x, atoms, values)
		}
		th, e := Tautology(small(), x, 100000)
		if all != (e == api.OK) || !all && e != api.ErrFail {
			t.Fatal(testlang.Text(small(), x), all, e)
		}
		if all {
			yes++
			if !term.Equal(th.Prop(), hol.Truth(x)) || len(th.Hyps())+len(th.Oracles()) > 0 || testlang.Fault(th) != "" {
				t.Error(testlang.Sequent(th), testlang.Fault(th))
			}
		}
	}
	if yes < 40 {
		t.Error(yes)
	}
}

func TestP251TautologyErrors(t *testing.T) {
	thy := small()
	x := form("a | ~ a")
	if _, e := Tautology(api.Theory{}, api.Term{}, -1); e != api.ErrForm {
		t.Error(e)
	}
	if _, e := Tautology(theory.Pure(), api.Term{}, -1); e != api.ErrTheory {
		t.Error(e)
	}
	if _, e := Tautology(thy, api.Term{}, -1); e != api.ErrForm {
		t.Error(e)
	}
	if _, e := Tautology(thy, testlang.Term(thy, "c"), -1); e != api.ErrType {
		t.Error(e)
	}
	if _, e := Tautology(thy, x, -1); e != api.ErrRange {
		t.Error(e)
	}
	if _, e := Tautology(thy, x, 0); e != api.ErrFuel {
		t.Error(e)
	}
	if th, e := Tautology(thy, form("a"), 100); e != api.ErrFail || th.Is() {
		t.Error(e)
	}
}

func TestP254Rebuild(t *testing.T) {
	thy := small()
	var atoms []api.Term
	for _, s := range []string{"a", "b", "e", "p c", "f"} {
		atoms = append(atoms, form(s))
	}
	m := rand.New(rand.NewSource(25))
	rebuilt := 0
	for range 300 {
		l := chance(m, 5, 9, 2)
		r, e := Solve(l, 1000)
		if e != api.OK || r.Holds {
			continue
		}
		rebuilt++
		names := atoms
		if m.Intn(4) == 0 {
			names = []api.Term{atoms[0], hol.Not(atoms[0]), atoms[1], atoms[1], hol.Or(atoms[0], atoms[1])}
		}
		th, e := Rebuild(thy, names, l, r.Proof)
		if e != api.OK || !term.Equal(th.Prop(), hol.Truth(hol.False())) || len(th.Oracles()) > 0 || testlang.Fault(th) != "" {
			t.Fatal(l, e, testlang.Fault(th))
		}
		want := wanted(names, l, r.Proof)
		if !slices.EqualFunc(th.Hyps(), want, term.Equal) {
			t.Error(l, r.Proof, testlang.Sequent(th))
		}
	}
	if rebuilt < 50 {
		t.Error(rebuilt)
	}
}

// wanted returns Truth of the clauses that the trimmed proof needs, in order, each once.
func wanted(atoms []api.Term, l []Clause, p []Step) []api.Term {
	p, _ = Trim(l, p)
	need := map[int]bool{}
	for _, s := range p {
		need[s.A], need[s.B] = true, true
	}
	var out []api.Term
	for i, c := range l {
		if !need[i] && !(len(p) == 0 && len(c) == 0) {
			continue
		}
		x := hol.False()
		for k := len(c) - 1; k >= 0; k-- {
			lit := atoms[atomOf(c[k])-1]
			if c[k] < 0 {
				lit = hol.Not(lit)
			}
			if k == len(c)-1 {
				x = lit
			} else {
				x = hol.Or(lit, x)
			}
		}
		out = append(out, hol.Truth(x))
	}
	slices.SortFunc(out, term.Compare)
	return slices.CompactFunc(out, term.Equal)
}

func TestP254RebuildErrors(t *testing.T) {
	thy := small()
	a, b := form("a"), form("b")
	p := []Step{{0, 1, 1}, {3, 2, 2}}
	l := of("1, -1 2, -2")
	odd := api.Term{Op: api.Free, Name: "a", Type: api.Type{Op: api.TCon, Name: "t"}}
	for i, c := range []struct {
		thy   api.Theory
		atoms []api.Term
		l     []Clause
		p     []Step
		want  api.Errno
	}{
		{api.Theory{}, []api.Term{{}}, []Clause{{0}}, nil, api.ErrForm}, {theory.Pure(), []api.Term{{}}, []Clause{{0}}, nil, api.ErrTheory}, {thy, []api.Term{a, {}}, []Clause{{0}}, nil, api.ErrForm}, {thy, []api.Term{a, odd, {}}, []Clause{{0}}, nil, api.ErrType}, {thy, []api.Term{a}, []Clause{{3}, {0}}, nil, ErrClause}, {thy, []api.Term{a}, l, nil, api.ErrRange}, {thy, []api.Term{a, b}, l, p[:1], ErrProof}, {thy, []api.Term{a, b}, l, p, api.OK}, {thy, []api.Term{a, b, odd}, l, p, api.ErrType},
		{thy, nil, []Clause{{}}, nil, api.OK}, {thy, nil, nil, nil, ErrProof}, {thy, []api.Term{form("p c"), hol.Not(form("p c"))}, l, p, api.OK},
	} {
		th, e := Rebuild(c.thy, c.atoms, c.l, c.p)
		if e != c.want || th.Is() != (e == api.OK) {
			t.Error(i, e, "not", c.want)
		}
	}
}

// A clause that is used often is proved once.
func TestP254Shared(t *testing.T) {
	var l []Clause
	var atoms []api.Term
	n := 14
	for i := range n {
		atoms = append(atoms, api.Term{Op: api.Free, Name: "a" + string(rune('a'+i)), Type: hol.BoolType()})
	}
	// each two atoms in a row are equal, and the first and the last one are not; every clause is used by many
	for i := 1; i < n; i++ {
		l = append(l, Clause{-i, i + 1}, Clause{i, -i - 1})
	}
	l = append(l, Clause{1, n}, Clause{-1, -n})
	r, e := Solve(l, 1000)
	if e != api.OK || r.Holds {
		t.Fatal(e)
	}
	th, e := Rebuild(small(), atoms, l, r.Proof)
	if e != api.OK || testlang.Fault(th) != "" {
		t.Error(e)
	}
	eq := func(a, b api.Term) api.Term { x, _ := hol.Equal(a, b); return x }
	left, right := atoms[0], atoms[7]
	for i := 1; i < 8; i++ {
		left, right = eq(left, atoms[i]), eq(atoms[7-i], right)
	}
	if th, e := Tautology(small(), eq(left, right), 100000); e != api.OK && e != api.ErrLarge || e == api.OK && testlang.Fault(th) != "" {
		t.Error(e)
	}
}
