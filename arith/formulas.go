package arith

import (
	"slices"

	"triforium/api"
	"triforium/hol"
	"triforium/kernel"
	"triforium/term"
	"triforium/theory"
	"triforium/types"
)

const maxHyps = 20

// total is what a natural term means: a sum of unknowns, by their numbers, and a number.
type total struct {
	coeffs map[int]int
	number int
}

// reader reads formulas.
type reader struct {
	unknowns []api.Term
	rows     []total // at most 0
	large    bool    // whether a number was too large
}

// limited returns a total whose numbers are not too large; if some are, this is noted, and it is any.
func (r *reader) limited(t total) total {
	if !within(MaxNumber, t.number) {
		r.large = true
		return total{}
	}
	for _, c := range t.coeffs {
		if !within(MaxNumber, c) {
			r.large = true
			return total{}
		}
	}
	return t
}

// combined returns a total times a number and another one times a number, added.
func (r *reader) combined(a, b total, m, n int) total {
	out := total{map[int]int{}, a.number*m + b.number*n}
	for i, c := range a.coeffs {
		out.coeffs[i] += c * m
	}
	for i, c := range b.coeffs {
		out.coeffs[i] += c * n
	}
	return r.limited(out)
}

// isConst reports whether a term is a constant of Nat of a type.
func isConst(t api.Term, name string, k api.Type) bool {
	return t.Op == api.Const && t.Name == name && types.Equal(t.Type, k)
}

// operands returns the arguments of a constant of a type that is applied to two.
func operands(t api.Term, name string, k api.Type) (a, b api.Term, ok bool) {
	if t.Op != api.App || t.Kids[0].Op != api.App || !isConst(t.Kids[0].Kids[0], name, k) {
		return api.Term{}, api.Term{}, false
	}
	return t.Kids[0].Kids[1], t.Kids[1], true
}

// operation is the type of plus and times, relation that of le, less, and Equal of numbers.
func operation() api.Type {
	n := hol.NatType()
	return types.Fun(n, types.Fun(n, n))
}

func relation() api.Type {
	n := hol.NatType()
	return types.Fun(n, types.Fun(n, hol.BoolType()))
}

// natural returns what a natural term means.
func (r *reader) natural(t api.Term) total {
	n := hol.NatType()
	if isConst(t, "Zero", n) {
		return total{}
	}
	if t.Op == api.App && isConst(t.Kids[0], "Suc", types.Fun(n, n)) {
		a := r.natural(t.Kids[1])
		return r.limited(total{a.coeffs, a.number + 1})
	}
	if a, b, ok := operands(t, "plus", operation()); ok {
		first := r.natural(a)
		return r.combined(first, r.natural(b), 1, 1)
	}
	if a, b, ok := operands(t, "times", operation()); ok {
		if m, ok := hol.Number(a); ok {
			return r.times(b, m)
		}
		if m, ok := hol.Number(b); ok {
			return r.times(a, m)
		}
	}
	i := slices.IndexFunc(r.unknowns, func(u api.Term) bool { return term.Equal(u, t) })
	if i < 0 && len(r.unknowns) > MaxUnknowns {
		return total{} // there are too many
	}
	if i < 0 {
		i = len(r.unknowns)
		r.unknowns = append(r.unknowns, t)
	}
	return total{coeffs: map[int]int{i: 1}}
}

// times returns what a natural term times a number means.
func (r *reader) times(t api.Term, m int) total {
	return r.combined(r.natural(t), total{}, m, 0)
}

// atMost adds the row that a total, and a number, are at most 0.
func (r *reader) atMost(a, b total, more int) {
	t := r.combined(a, b, 1, -1)
	r.rows = append(r.rows, r.limited(total{t.coeffs, t.number + more}))
}

// formula adds the rows of a formula; false, if it is not linear.
func (r *reader) formula(t api.Term) bool {
	if a, b, ok := operands(t, "le", relation()); ok {
		x := r.natural(a)
		r.atMost(x, r.natural(b), 0)
		return true
	}
	if a, b, ok := operands(t, "less", relation()); ok {
		x := r.natural(a)
		r.atMost(x, r.natural(b), 1)
		return true
	}
	if a, b, ok := operands(t, "Equal", relation()); ok {
		x := r.natural(a)
		y := r.natural(b)
		r.atMost(x, y, 0)
		r.atMost(y, x, 0)
		return true
	}
	name, l := hol.Connective(t)
	switch name {
	case "True":
		return true
	case "False":
		r.rows = append(r.rows, total{number: 1})
		return true
	case "And":
		return r.formula(l[0]) && r.formula(l[1])
	case "Not":
		return r.negation(l[0])
	}
	return false
}

// negation adds the rows of Not of a formula; false, if this is not linear.
func (r *reader) negation(t api.Term) bool {
	if a, b, ok := operands(t, "le", relation()); ok {
		x := r.natural(a)
		r.atMost(r.natural(b), x, 1)
		return true
	}
	if a, b, ok := operands(t, "less", relation()); ok {
		x := r.natural(a)
		r.atMost(r.natural(b), x, 0)
		return true
	}
	name, l := hol.Connective(t)
	switch name {
	case "False":
		return true
	case "True":
		r.rows = append(r.rows, total{number: 1})
		return true
	case "Not":
		return r.formula(l[0])
	}
	return false
}

// Rows returns rows that formulas (True or not) over natural numbers mean, all of them together, and the terms that are their unknowns.
func Rows(l []api.Term) ([]Row, []api.Term, api.Errno) {
	if len(l) > MaxRows {
		return nil, nil, api.ErrCount
	}
	r := &reader{}
	for _, t := range l {
		k, e := term.TypeOf(t)
		if e != api.OK {
			return nil, nil, e
		}
		if !types.Equal(k, hol.BoolType()) {
			return nil, nil, api.ErrType
		}
		if !r.formula(t) {
			return nil, nil, ErrLinear
		}
	}
	if len(r.rows) > MaxRows || len(r.unknowns) > MaxUnknowns {
		return nil, nil, api.ErrCount
	}
	if r.large {
		return nil, nil, api.ErrLarge
	}
	var rows []Row
	for _, t := range r.rows {
		row := Row{Coeffs: make([]int, len(r.unknowns)), Bound: -t.number}
		for i := range row.Coeffs {
			row.Coeffs[i] = t.coeffs[i]
		}
		rows = append(rows, row)
	}
	var terms []api.Term
	for _, u := range r.unknowns {
		terms = append(terms, term.Copy(u))
	}
	return rows, terms, api.OK
}

// Extend returns a theory with the oracle of this layer.
func Extend(thy api.Theory) (api.Theory, api.Errno) {
	if _, e := open(thy); e != api.OK {
		return api.Theory{}, e
	}
	if slices.Contains(thy.Oracles, OracleName) {
		return theory.Copy(thy), api.OK
	}
	return theory.Extend(thy, thy.Name, api.Theory{Oracles: []string{OracleName}})
}

// open returns the base of a theory that has Nat.
func open(thy api.Theory) (kernel.Base, api.Errno) {
	base, e := kernel.On(thy)
	if e != api.OK {
		return kernel.Base{}, e
	}
	if !theory.Within(hol.Nat(), thy) {
		return kernel.Base{}, api.ErrTheory
	}
	return base, api.OK
}

// Prove returns the theorem of a linear formula from linear hypotheses, stated by the oracle, with the certificate that refutes the contrary.
func Prove(thy api.Theory, hyps []api.Term, concl api.Term, lines int) (kernel.Theorem, [][]Line, api.Errno) {
	base, e := open(thy)
	if e != api.OK {
		return kernel.Theorem{}, nil, e
	}
	if !slices.Contains(thy.Oracles, OracleName) {
		return kernel.Theorem{}, nil, api.ErrMissing
	}
	if len(hyps) > maxHyps {
		return kernel.Theorem{}, nil, api.ErrCount
	}
	all := append(slices.Clone(hyps), concl)
	for _, t := range all {
		k, e := base.Sign().Check(t)
		if e != api.OK {
			return kernel.Theorem{}, nil, e
		}
		if !types.Equal(k, hol.BoolType()) {
			return kernel.Theorem{}, nil, api.ErrType
		}
	}
	certificates, e := refutations(hyps, contraries(concl), lines)
	if e != api.OK {
		return kernel.Theorem{}, nil, e
	}
	prop := hol.Truth(concl)
	for _, h := range slices.Backward(hyps) {
		prop = term.Imp(hol.Truth(h), prop)
	}
	t, e := base.Oracle(OracleName, prop)
	if e != api.OK {
		return kernel.Theorem{}, nil, e
	}
	return t, certificates, api.OK
}

// contraries returns the formulas, one of which holds if a conclusion does not.
func contraries(concl api.Term) []api.Term {
	a, b, ok := operands(concl, "Equal", relation())
	if !ok {
		return []api.Term{hol.Not(concl)}
	}
	le := func(a, b api.Term) api.Term {
		return term.Apps(api.Term{Op: api.Const, Name: "le", Type: relation()}, []api.Term{a, b})
	}
	return []api.Term{hol.Not(le(a, b)), hol.Not(le(b, a))}
}

// refutations returns certificates that hypotheses refute each one of some formulas.
func refutations(hyps, l []api.Term, lines int) ([][]Line, api.Errno) {
	var problems [][]Row
	for _, c := range l {
		rows, _, e := Rows(append(slices.Clone(hyps), c))
		if e != api.OK {
			return nil, e
		}
		problems = append(problems, rows)
	}
	var out [][]Line
	for _, rows := range problems {
		certificate, ok, e := Refute(rows, lines)
		if e != api.OK {
			return nil, e
		}
		if ok {
			out = append(out, certificate)
		}
	}
	if len(out) < len(problems) {
		return nil, api.ErrFail
	}
	return out, api.OK
}
