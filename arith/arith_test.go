package arith

import (
	"math/rand"
	"slices"
	"strings"
	"sync"
	"testing"

	"triforium/api"
	"triforium/hol"
	"triforium/term"
	"triforium/testlang"
	"triforium/theory"
)

func row(bound int, coeffs ...int) Row { return Row{coeffs, bound} }

func example() ([]Row, []Line) {
	return []Row{row(1, 1, 1), row(-2, -1)}, []Line{{Kind: Given}, {Kind: Given, A: 1}, {Kind: Natural, A: 1}, {Kind: Sum, A: 0, B: 1, M: 1, N: 1}, {Kind: Sum, A: 3, B: 2, M: 1, N: 1}}
}

func same(a, b Row) bool { return slices.Equal(a.Coeffs, b.Coeffs) && a.Bound == b.Bound }

func TestP241Derive(t *testing.T) {
	rows, l := example()
	got, e := Derive(rows, l)
	want := []Row{row(1, 1, 1), row(-2, -1, 0), row(0, 0, -1), row(-1, 0, 1), row(-1, 0, 0)}
	if e != api.OK || !slices.EqualFunc(got, want, same) || Check(rows, l) != api.OK {
		t.Error(got, e)
	}
	for i, c := range []struct {
		l    []Line
		want api.Errno
	}{
		{nil, ErrCertificate}, {l[:4], ErrCertificate}, {slices.Repeat([]Line{{}}, 5001), api.ErrCount}, {slices.Repeat(l[:1], 5000), ErrCertificate}, {[]Line{{}}, ErrCertificate}, {[]Line{{Kind: 5}}, ErrCertificate}, {[]Line{{Kind: Given, A: 2}}, ErrCertificate}, {[]Line{{Kind: Given, A: -1}}, ErrCertificate}, {[]Line{{Kind: Given, M: 1}}, ErrCertificate}, {[]Line{{Kind: Given, N: 1}}, ErrCertificate}, {[]Line{{Kind: Given, B: 1}}, ErrCertificate},
		{[]Line{{Kind: Natural, A: 2}}, ErrCertificate}, {[]Line{{Kind: Natural, A: -1}}, ErrCertificate}, {[]Line{{Kind: Natural, B: 1}}, ErrCertificate}, {[]Line{{Kind: Sum, M: 1, N: 1}}, ErrCertificate}, {[]Line{l[0], {Kind: Sum, B: 1, M: 1, N: 1}}, ErrCertificate}, {[]Line{l[0], {Kind: Sum, A: -1, M: 1, N: 1}}, ErrCertificate}, {[]Line{l[0], {Kind: Sum, N: 1}}, ErrCertificate}, {[]Line{l[0], {Kind: Sum, M: 1}}, ErrCertificate}, {[]Line{l[0], {Kind: Sum, M: 1000001, N: 1}}, ErrCertificate}, {[]Line{l[0], {Kind: Divided, M: 2}}, ErrCertificate}, {[]Line{l[0], {Kind: Divided}}, ErrCertificate}, {[]Line{l[0], {Kind: Divided, M: 1, N: 1}}, ErrCertificate}, {[]Line{l[0], {Kind: Divided, B: 1, M: 1}}, ErrCertificate}, {[]Line{l[0], {Kind: Divided, A: 1, M: 1}}, ErrCertificate},
	} {
		if e := Check(rows, c.l); e != c.want {
			t.Error(i, e, "not", c.want)
		}
		if got, e := Derive(rows, c.l); e != c.want && !(c.want == ErrCertificate && e == api.OK) || e != api.OK && got != nil {
			t.Error("Derive", i, e)
		}
	}
	for _, c := range []struct{ bound, m, want int }{{5, 2, 2}, {-5, 2, -3}, {-4, 2, -2}, {0, 2, 0}, {-1, 2, -1}, {1, 2, 0}, {-1, 1, -1}} {
		got, e := Derive([]Row{row(c.bound, 4, -2)}, []Line{{Kind: Given}, {Kind: Divided, M: c.m}})
		if e != api.OK || got[1].Bound != c.want || got[1].Coeffs[0] != 4/c.m {
			t.Error(c, got, e)
		}
	}
}

func TestP241Large(t *testing.T) {
	rows := []Row{row(MaxNumber, -MaxNumber), row(-1)}
	up := func(m int) []Line {
		return []Line{{Kind: Given}, {Kind: Given, A: 1}, {Kind: Sum, A: 0, B: 1, M: m, N: 1}}
	}
	if got, e := Derive(rows, up(MaxNumber)); e != api.OK || got[2].Bound != 1e12-1 {
		t.Error(got, e)
	}
	if _, e := Derive([]Row{row(MaxNumber), row(1)}, up(MaxNumber)); e != api.ErrLarge {
		t.Error(e)
	}
	if _, e := Derive(rows, append(up(MaxNumber), Line{Kind: Sum, A: 2, B: 2, M: MaxNumber, N: MaxNumber}, Line{})); e != api.ErrLarge {
		t.Error(e)
	}
	if got, e := Derive([]Row{row(3), row(-2, 1, 1)}, []Line{{Kind: Given}}); e != api.OK || len(got[0].Coeffs) != 2 {
		t.Error(got, e)
	}
}

func TestP241Rows(t *testing.T) {
	many := slices.Repeat([]Row{row(1)}, 101)
	for i, c := range []struct {
		rows []Row
		want api.Errno
	}{
		{many[:100], api.OK}, {append(many[:100:100], row(MaxNumber+1)), api.ErrCount}, {[]Row{row(0, make([]int, 12)...)}, api.OK}, {[]Row{row(MaxNumber+1, make([]int, 13)...)}, api.ErrCount}, {[]Row{row(MaxNumber + 1), row(0, make([]int, 13)...)}, api.ErrRange}, {[]Row{row(0, 1, -MaxNumber-1)}, api.ErrRange}, {[]Row{row(-1 << 63)}, api.ErrRange}, {[]Row{row(-MaxNumber, MaxNumber)}, api.OK},
	} {
		if _, e := Derive(c.rows, slices.Repeat([]Line{{}}, 5001)); e != c.want && c.want != api.OK {
			t.Error(i, e)
		}
		if e := Check(c.rows, nil); e != c.want && c.want != api.OK {
			t.Error(i, e)
		}
		if _, e := Holds(c.rows, make([]int, 20)); e != c.want && c.want != api.OK || c.want == api.OK && e != api.ErrCount {
			t.Error(i, e)
		}
		if _, _, e := Refute(c.rows, -1); e != c.want && c.want != api.OK || c.want == api.OK && e != api.ErrRange {
			t.Error(i, e)
		}
		if _, _, e := Point(c.rows, -1); e != c.want && c.want != api.OK || c.want == api.OK && e != api.ErrRange {
			t.Error(i, e)
		}
	}
}

func TestP241Holds(t *testing.T) {
	rows, _ := example()
	for _, c := range []struct {
		x    []int
		want bool
		e    api.Errno
	}{{[]int{2, 0}, false, api.OK}, {[]int{1, 0}, false, api.OK}, {[]int{0}, false, api.ErrCount}, {[]int{0, 0, 0}, false, api.ErrCount}, {[]int{-1, 0}, false, api.ErrRange}, {[]int{0, MaxNumber + 1}, false, api.ErrRange}, {[]int{MaxNumber, MaxNumber}, false, api.OK}} {
		if ok, e := Holds(rows, c.x); ok != c.want || e != c.e {
			t.Error(c.x, ok, e)
		}
	}
	if ok, e := Holds([]Row{row(5, 1, 1), row(-2, -1)}, []int{2, 3}); !ok || e != api.OK {
		t.Error(e)
	}
	if ok, e := Holds(nil, nil); !ok || e != api.OK {
		t.Error(e)
	}
	if ok, e := Holds([]Row{row(-1)}, nil); ok || e != api.OK {
		t.Error(e)
	}
}

func TestP241Point(t *testing.T) {
	for _, c := range []struct {
		rows  []Row
		bound int
		want  []int
		ok    bool
		e     api.Errno
	}{
		{[]Row{row(-3, -1, -1)}, 3, []int{0, 3}, true, api.OK}, {[]Row{row(-3, -1, -1), row(1, 0, 1)}, 3, []int{2, 1}, true, api.OK}, {[]Row{row(-3, -1, -1)}, 1, nil, false, api.OK}, {nil, 0, nil, true, api.OK}, {[]Row{row(-1)}, 0, nil, false, api.OK}, {[]Row{row(0, 1, 1)}, 101, nil, false, api.ErrRange}, {[]Row{row(0, 1, 1, 1)}, 100, nil, false, api.ErrLarge}, {[]Row{row(0, 1, 1)}, 100, []int{0, 0}, true, api.OK}, {[]Row{row(0, 1, 1, 1, 1, 1)}, 9, []int{0, 0, 0, 0, 0}, true, api.OK}, {[]Row{row(0, 1, 1, 1, 1, 1)}, 10, nil, false, api.ErrLarge},
	} {
		x, ok, e := Point(c.rows, c.bound)
		if !slices.Equal(x, c.want) || ok != c.ok || e != c.e {
			t.Error(c, x, ok, e)
		}
	}
}

func TestP243Refute(t *testing.T) {
	rows, _ := example()
	l, ok, e := Refute(rows, 5)
	if !ok || e != api.OK || Check(rows, l) != api.OK || len(l) > 5 {
		t.Error(l, ok, e)
	}
	if l, ok, e := Refute(rows, 2); ok || e != api.ErrFuel || l != nil {
		t.Error(l, ok, e)
	}
	if l, ok, e := Refute([]Row{row(-1)}, 1); !ok || e != api.OK || len(l) != 1 {
		t.Error(l, ok, e)
	}
	if _, ok, e := Refute(nil, 0); ok || e != api.OK {
		t.Error(e)
	}
	for _, n := range []int{-1, 5001} {
		if _, _, e := Refute(rows, n); e != api.ErrRange {
			t.Error(e)
		}
	}
	m := rand.New(rand.NewSource(243))
	yes, no := 0, 0
	for range 3000 {
		rows := chance(m)
		l, ok, e := Refute(rows, MaxLines)
		if e != api.OK {
			t.Fatal(rows, e)
		}
		x, some, _ := Point(rows, []int{30, 30, 12}[max(unknowns(rows), 1)-1])
		if ok {
			yes++
			if Check(rows, l) != api.OK || some {
				t.Error(rows, l, x)
			}
		} else {
			no++
		}
		if !ok && !rational(rows) {
			t.Error("not refuted", rows)
		}
	}
	if yes < 200 || no < 200 {
		t.Error(yes, no)
	}
}

// chance makes rows.
func chance(m *rand.Rand) []Row {
	var rows []Row
	n := 1 + m.Intn(3)
	for range 1 + m.Intn(5) {
		r := row([]int{m.Intn(201) - 100, m.Intn(11) - 5, -m.Intn(30)}[m.Intn(3)])
		for range n {
			r.Coeffs = append(r.Coeffs, m.Intn(21)-10)
		}
		rows = append(rows, r)
	}
	return rows
}

// rational reports whether some rational numbers from 0 on fulfil rows: then a corner does, where as many rows as there are unknowns are equations.
func rational(rows []Row) bool {
	n := unknowns(rows)
	all := slices.Clone(rows)
	for i := range n {
		r := row(0, make([]int, n)...)
		r.Coeffs[i] = -1
		all = append(all, r)
	}
	pick := make([]int, n)
	var try func(k, from int) bool
	try = func(k, from int) bool {
		if k == n {
			return corner(all, pick, n)
		}
		for i := from; i < len(all); i++ {
			pick[k] = i
			if try(k+1, i+1) {
				return true
			}
		}
		return false
	}
	return try(0, 0)
}

// corner reports whether the numbers for which some rows are equations fulfil all rows (by Cramer's rule).
func corner(all []Row, pick []int, n int) bool {
	at := func(i, j int) int {
		if j == n {
			return all[pick[i]].Bound
		}
		return all[pick[i]].Coeffs[j]
	}
	det := func(cols []int) int {
		switch n {
		case 1:
			return at(0, cols[0])
		case 2:
			return at(0, cols[0])*at(1, cols[1]) - at(0, cols[1])*at(1, cols[0])
		}
		d := 0
		for k := range 3 {
			a, b, c := cols[k], cols[(k+1)%3], cols[(k+2)%3]
			d += at(0, a) * (at(1, b)*at(2, c) - at(1, c)*at(2, b))
		}
		return d
	}
	cols := []int{0, 1, 2}[:n]
	d := det(cols)
	if d == 0 {
		return false
	}
	sign := 1
	if d < 0 {
		sign = -1
	}
	for _, r := range all {
		s := 0
		for i := range n {
			with := slices.Clone(cols)
			with[i] = n
			s += r.Coeffs[i] * det(with)
		}
		if s*sign > r.Bound*d*sign {
			return false
		}
	}
	return true
}

// Many unknowns, and long chains.
func TestP243Long(t *testing.T) {
	var chain []Row
	for i := range 11 {
		r := row(-1, make([]int, 12)...)
		r.Coeffs[i], r.Coeffs[i+1] = 1, -1
		chain = append(chain, r)
	}
	if _, ok, e := Refute(chain, MaxLines); ok || e != api.OK {
		t.Error(ok, e)
	}
	end := row(10, make([]int, 12)...)
	end.Coeffs[11] = 1
	chain = append(chain, end)
	l, ok, e := Refute(chain, MaxLines)
	if !ok || e != api.OK || Check(chain, l) != api.OK {
		t.Error(ok, e)
	}
	big := []Row{row(-1, MaxNumber, -999999, 999983), row(-1, -999979, 999961, -999959), row(-5, 999953, -999931, 999917), row(7, -999907, 999883, -999863)}
	if _, _, e := Refute(big, MaxLines); e != api.OK && e != api.ErrLarge {
		t.Error(e)
	}
}

func TestP242Certificates(t *testing.T) {
	m := rand.New(rand.NewSource(242))
	for range 500 {
		rows := chance(m)
		var l []Line
		for i := range 12 {
			switch m.Intn(5) {
			case 0:
				l = append(l, Line{Kind: Given, A: m.Intn(len(rows))})
			case 1:
				l = append(l, Line{Kind: Natural, A: m.Intn(unknowns(rows))})
			case 2, 3:
				l = append(l, Line{Kind: Sum, A: m.Intn(i + 1), B: m.Intn(i + 1), M: 1 + m.Intn(3), N: 1 + m.Intn(3)})
			case 4:
				l = append(l, Line{Kind: Divided, A: m.Intn(i + 1), M: 1 + m.Intn(3)})
			}
			if _, e := Derive(rows, l); e != api.OK {
				l = append(l[:len(l)-1], Line{Kind: Given, A: m.Intn(len(rows))})
			}
		}
		made, e := Derive(rows, l)
		if e != api.OK {
			t.Fatal(e)
		}
		for range 30 {
			x := make([]int, unknowns(rows))
			for i := range x {
				x[i] = m.Intn(8)
			}
			if ok, _ := Holds(rows, x); ok && !fulfil(made, x) {
				t.Error(rows, l, x)
			}
		}
	}
}

func TestP246Sums(t *testing.T) {
	rows, l := example()
	more := append(slices.Clone(rows), row(5, 1), row(-1))
	if Check(more, l) != api.OK {
		t.Error("more rows")
	}
	both := append(slices.Clone(l), Line{Kind: Sum, A: 4, B: 4, M: 2, N: 3})
	if Check(rows, both) != api.OK {
		t.Error("a sum")
	}
}

var nat = sync.OnceValue(func() api.Theory {
	return testlang.Theory(hol.Nat(), "", "f : nat => nat; b : bool", "")
})

func forms(s string) []api.Term { return testlang.Terms(nat(), s) }

func numeral(n int) string { return strings.Repeat("Suc (", n) + "Zero" + strings.Repeat(")", n) }

func TestP241Formulas(t *testing.T) {
	two, three := numeral(2), numeral(3)
	for _, c := range []struct {
		s, unknowns string
		want        []Row
		e           api.Errno
	}{
		{"x <= y", "x::nat;y::nat", []Row{row(0, 1, -1)}, api.OK}, {"x < y", "x::nat;y::nat", []Row{row(-1, 1, -1)}, api.OK}, {"(x::nat) = y", "x::nat;y::nat", []Row{row(0, 1, -1), row(0, -1, 1)}, api.OK}, {"~ x <= y", "x::nat;y::nat", []Row{row(-1, -1, 1)}, api.OK}, {"~ x < y", "x::nat;y::nat", []Row{row(0, -1, 1)}, api.OK}, {"True; ~ False", "", nil, api.OK}, {"False; ~ True", "", []Row{row(-1), row(-1)}, api.OK},
		{"x <= y & y < Zero", "x::nat;y::nat", []Row{row(0, 1, -1), row(-1, 0, 1)}, api.OK}, {"~ ~ x < x", "x::nat", []Row{row(-1, 0)}, api.OK}, {"Suc x + y <= Suc (Suc (f x))", "x::nat; y::nat; f x", []Row{row(1, 1, 1, -1)}, api.OK}, {two + " * x <= y * " + three, "x::nat;y::nat", []Row{row(0, 2, -3)}, api.OK}, {"x * y <= x", "x * y; x::nat", []Row{row(0, 1, -1)}, api.OK}, {two + " * " + three + " <= x", "x::nat", []Row{row(-6, -1)}, api.OK}, {"Zero * x <= y", "x::nat; y::nat", []Row{row(0, 0, -1)}, api.OK}, {"x <= x + (Zero + Zero) * y", "x::nat; (Zero + Zero) * y", []Row{row(0, 0, -1)}, api.OK},
		{"x <= y; y <= z", "x::nat;y::nat;z::nat", []Row{row(0, 1, -1, 0), row(0, 0, 1, -1)}, api.OK}, {"~ y < x", "y::nat;x::nat", []Row{row(0, -1, 1)}, api.OK}, {"(if b then x else y) <= x", "if b then (x::nat) else y; x::nat", []Row{row(0, 1, -1)}, api.OK},
		{"x <= y | y <= x", "", nil, ErrLinear}, {"b", "", nil, ErrLinear}, {"~ (x <= y & True)", "", nil, ErrLinear}, {"~ ((x::nat) = y)", "", nil, ErrLinear}, {"b = b", "", nil, ErrLinear}, {"x <= y --> y <= x", "", nil, ErrLinear}, {"x <= y & b", "", nil, ErrLinear}, {"Zero; b", "", nil, api.ErrType}, {"b; Zero", "", nil, ErrLinear}, {"ALL x. x <= y", "", nil, ErrLinear},
	} {
		rows, unknowns, e := Rows(forms(c.s))
		if e != c.e || !slices.EqualFunc(rows, c.want, same) || !slices.EqualFunc(unknowns, forms(c.unknowns), term.Equal) {
			t.Error(c.s, rows, len(unknowns), e)
		}
	}
}

// large reads a formula in which N100 and N101 are numbers.
func large(s string) api.Term {
	t := forms(s)[0]
	for name, n := range map[string]int{"N100": 100, "N101": 101} {
		x, _ := hol.Numeral(0)
		for range n {
			x = term.Apps(forms("Suc")[0], []api.Term{x})
		}
		t = term.Put(term.Bind(api.Term{Op: api.Free, Name: name, Type: hol.NatType()}, t), x)
	}
	return t
}

func TestP241FormulaLimits(t *testing.T) {
	if _, _, e := Rows(slices.Repeat([]api.Term{{}}, 101)); e != api.ErrCount {
		t.Error(e)
	}
	if _, _, e := Rows([]api.Term{{Op: api.Bound}}); e != term.ErrLoose {
		t.Error(e)
	}
	if rows, _, e := Rows(slices.Repeat(forms("x < y"), 100)); e != api.OK || len(rows) != 100 {
		t.Error(e)
	}
	if _, _, e := Rows(slices.Repeat(forms("(x::nat) = y"), 51)); e != api.ErrCount {
		t.Error(e)
	}
	names := strings.Split("a1 b1 c1 d1 e1 g1 h1 i1 j1 k1 l1 m1 n1", " ")
	if rows, l, e := Rows(forms(strings.Join(names[:12], " + ") + " <= Zero")); e != api.OK || len(l) != 12 || len(rows[0].Coeffs) != 12 {
		t.Error(e)
	}
	if _, _, e := Rows(forms(strings.Join(names, " + ") + " <= Zero")); e != api.ErrCount {
		t.Error(e)
	}
	if _, _, e := Rows(forms(strings.Join(names, " + ") + " <= Zero; b")); e != ErrLinear {
		t.Error(e)
	}
	n := "N100"
	for _, c := range []struct {
		s    string
		want api.Errno
	}{
		{n + "*(" + n + "*(" + n + "* x)) <= x", api.OK}, {"(Suc Zero) * x + " + n + "*(" + n + "*(" + n + "* x)) <= x", api.ErrLarge}, {n + "*(" + n + "*(" + n + "* x)) <= x * Zero", api.OK}, {n + "*(" + n + "*(" + "N101" + "* x)) <= x", api.ErrLarge}, {"Zero * (" + n + "*(" + n + "*(" + "N101" + "* x))) <= x", api.ErrLarge},
		{n + "*(" + n + "*" + n + ") <= x", api.OK}, {n + "*(" + n + "*" + n + ") < x", api.ErrLarge}, {"~ x <= " + n + "*(" + n + "*" + n + ")", api.ErrLarge}, {"~ " + n + "*(" + n + "*" + n + ") <= x", api.OK}, {n + "*(" + n + "*(" + n + "* x)) <= y + Zero & x <= " + n + "*(" + n + "*(" + n + "* x))", api.OK},
	} {
		if _, _, e := Rows([]api.Term{large(c.s)}); e != c.want {
			t.Error(c.s, e, "not", c.want)
		}
	}
	odd := api.Term{Op: api.Const, Name: "le", Type: hol.BoolType()}
	if _, _, e := Rows([]api.Term{odd}); e != ErrLinear {
		t.Error(e)
	}
}

func TestP241Extend(t *testing.T) {
	thy, e := Extend(nat())
	if e != api.OK || thy.Name != "T" || !slices.Equal(thy.Oracles, []string{OracleName}) || !theory.Within(nat(), thy) {
		t.Error(e)
	}
	again, e := Extend(thy)
	if e != api.OK || len(again.Oracles) != 1 || again.Name != "T" {
		t.Error(e)
	}
	if _, e := Extend(hol.HOL()); e != api.ErrTheory {
		t.Error(e)
	}
	if _, e := Extend(api.Theory{}); e != theory.Check(api.Theory{}) {
		t.Error(e)
	}
	full := nat()
	for len(full.Oracles) < api.MaxItems {
		full.Oracles = append(full.Oracles, "o"+strings.Repeat("x", len(full.Oracles)%20)+string(rune('a'+len(full.Oracles)/20)))
	}
	if _, e := Extend(full); e != api.ErrCount {
		t.Error(e)
	}
}

func TestP245Prove(t *testing.T) {
	thy, _ := Extend(nat())
	for _, c := range []struct {
		hyps, concl  string
		certificates int
		e            api.Errno
	}{
		{"x <= y; y <= z", "x <= z", 1, api.OK}, {"x <= y; y <= x", "(x::nat) = y", 2, api.OK}, {"x < y", "Suc x <= y", 1, api.OK}, {"", "x <= x + y", 1, api.OK}, {"", "x < x", 0, api.ErrFail}, {"x <= y", "(x::nat) = y", 0, api.ErrFail}, {"", "x + y = y + (x::nat)", 2, api.OK}, {"x + x = Suc (y + y)", "False", 1, api.OK}, {"False", "Zero = Suc Zero", 2, api.OK}, {"", "~ False", 1, api.OK}, {"", "True", 1, api.OK}, {"x < y | y < x", "True", 0, ErrLinear}, {"", "b", 0, ErrLinear}, {"", "b = b", 0, ErrLinear}, {"", "True & True", 0, ErrLinear}, {"x + x <= Suc Zero", "x = Zero", 2, api.OK}, {"~ (x <= y)", "y < x", 1, api.OK},
	} {
		concl := testlang.Term(thy, c.concl)
		th, l, e := Prove(thy, testlang.Terms(thy, c.hyps), concl, MaxLines)
		if e != c.e || len(l) != c.certificates || th.Is() != (e == api.OK) {
			t.Error(c.hyps, c.concl, e, len(l))
			continue
		}
		if e != api.OK {
			continue
		}
		want := hol.Truth(concl)
		hyps := testlang.Terms(thy, c.hyps)
		for _, h := range slices.Backward(hyps) {
			want = term.Imp(hol.Truth(h), want)
		}
		if !term.Equal(th.Prop(), want) || !slices.Equal(th.Oracles(), []string{OracleName}) || len(th.Hyps()) > 0 || testlang.Fault(th) != "" {
			t.Error(testlang.Sequent(th))
		}
		for i, contrary := range contraries(concl) {
			rows, _, e := Rows(append(slices.Clone(hyps), contrary))
			if e != api.OK || Check(rows, l[i]) != api.OK {
				t.Error(c.concl, i, e)
			}
		}
	}
}

func TestP245ProveErrors(t *testing.T) {
	thy, _ := Extend(nat())
	f := func(s string) []api.Term { return forms(s) }
	many := slices.Repeat([]api.Term{{}}, 21)
	for i, c := range []struct {
		thy   api.Theory
		hyps  []api.Term
		concl api.Term
		lines int
		want  api.Errno
	}{
		{api.Theory{}, many, api.Term{}, -1, api.ErrForm}, {hol.HOL(), many, api.Term{}, -1, api.ErrTheory}, {nat(), many, api.Term{}, -1, api.ErrMissing}, {thy, many, api.Term{}, -1, api.ErrCount}, {thy, f("Zero"), api.Term{}, -1, api.ErrType}, {thy, []api.Term{{}}, f("Zero")[0], -1, api.ErrForm}, {thy, f("b"), f("Zero")[0], -1, api.ErrType}, {thy, f("b"), f("True")[0], -1, ErrLinear}, {thy, f("x <= y"), f("x <= y")[0], -1, api.ErrRange}, {thy, f("x <= y"), f("x <= y")[0], 0, api.ErrFuel}, {thy, f("x <= y"), f("y <= x")[0], 100, api.ErrFail}, {thy, slices.Repeat(f("x <= y"), 20), f("x <= y")[0], 10, api.OK},
		{thy, f("x <= Zero"), f("x = True")[0], -1, ErrLinear},
	} {
		if th, l, e := Prove(c.thy, c.hyps, c.concl, c.lines); e != c.want || e != api.OK && (l != nil || th.Is()) {
			t.Error(i, e, "not", c.want)
		}
	}
	odd := api.Term{Op: api.Free, Name: "x", Type: hol.BoolType()}
	eq, _ := hol.Equal(odd, odd)
	if _, _, e := Prove(thy, f("x <= y"), hol.Not(hol.Not(hol.Not(eq))), 50); e != ErrLinear {
		t.Error(e)
	}
}

// holds evaluates a formula of numbers.
func holds(t api.Term, v map[string]int) bool {
	f, l := term.Spine(t)
	switch f.Name {
	case "True":
		return true
	case "False":
		return false
	case "Not":
		return !holds(l[0], v)
	case "And":
		return holds(l[0], v) && holds(l[1], v)
	case "le":
		return number(l[0], v) <= number(l[1], v)
	case "less":
		return number(l[0], v) < number(l[1], v)
	}
	return number(l[0], v) == number(l[1], v)
}

func number(t api.Term, v map[string]int) int {
	f, l := term.Spine(t)
	switch f.Name {
	case "Zero":
		return 0
	case "Suc":
		return number(l[0], v) + 1
	case "plus":
		return number(l[0], v) + number(l[1], v)
	case "times":
		return number(l[0], v) * number(l[1], v)
	}
	return v[f.Name]
}

type maker struct{ *rand.Rand }

func (m maker) number(depth int) string {
	if depth == 0 {
		return []string{"x", "y", "z", "Zero", numeral(2)}[m.Intn(5)]
	}
	a, b := "("+m.number(depth-1)+")", "("+m.number(depth-1)+")"
	return []string{a + "+" + b, "Suc " + a, numeral(3) + "*" + a, a + "*" + numeral(1), m.number(0)}[m.Intn(5)]
}

func (m maker) formula(depth int) string {
	a, b := "(("+m.number(2)+")::nat)", "("+m.number(2)+")"
	s := []string{a + "<=" + b, a + "<" + b, "~ " + a + "<=" + b, "~ " + a + "<" + b, a + "=" + b, "~ ~ " + a + "=" + b, "True", "~ False"}[m.Intn(8)]
	if depth > 0 && m.Intn(3) == 0 {
		return "(" + s + ") & (" + m.formula(depth-1) + ")"
	}
	return s
}

func TestP244Meaning(t *testing.T) {
	m := maker{rand.New(rand.NewSource(244))}
	for range 200 {
		f := forms(m.formula(2))[0]
		rows, unknowns, e := Rows([]api.Term{f})
		if e != api.OK {
			t.Fatal(testlang.Text(nat(), f), e)
		}
		for range 20 {
			v := map[string]int{}
			var x []int
			for _, u := range unknowns {
				v[u.Name] = m.Intn(5)
				x = append(x, v[u.Name])
			}
			if len(rows) > 0 && holds(f, v) != fulfil(rows, x) || len(rows) == 0 && !holds(f, v) {
				t.Error(testlang.Text(nat(), f), rows, v)
			}
		}
	}
}

func TestP245Random(t *testing.T) {
	m := maker{rand.New(rand.NewSource(245))}
	thy, _ := Extend(nat())
	proved := 0
	for range 150 {
		hyps := forms(m.formula(0) + ";" + m.formula(0))
		concl := forms([]string{"x <= y + z", "x < Suc y", "(x::nat) = y", "~ x < y", m.number(1) + "<= " + m.number(1), "False"}[m.Intn(6)])[0]
		_, _, e := Prove(thy, hyps, concl, MaxLines)
		if e != api.OK {
			continue
		}
		proved++
		for k := range 64 {
			v := map[string]int{"x": k % 4, "y": k / 4 % 4, "z": k / 16}
			if holds(hyps[0], v) && holds(hyps[1], v) && !holds(concl, v) {
				t.Error(testlang.Text(thy, hyps[0]), testlang.Text(thy, hyps[1]), testlang.Text(thy, concl), v)
			}
		}
	}
	if proved < 10 {
		t.Error(proved)
	}
}
