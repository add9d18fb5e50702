package sat

import (
	"triforium/api"
	"triforium/derive"
	"triforium/hol"
	"triforium/kernel"
)

// defined returns a clause of an encoder: of its last one the formula is assumed, the others hold by what connectives mean.
func (b *builder) defined(x *encoder, i int) kernel.Theorem {
	d := x.clauses[i]
	if i == len(x.clauses)-1 {
		return b.contradicted(x, d.part, b.Assume(hol.Truth(d.part)))
	}
	name, l := hol.Connective(d.part)
	var parts [2]kernel.Theorem
	for k, s := range [...]sign{d.rule.first, d.rule.second} {
		if s != 0 {
			parts[k] = b.known(x, l[k], s < 0)
		}
	}
	whole := b.Assume(hol.Truth(d.part))
	if d.rule.whole > 0 {
		whole = b.Assume(hol.Truth(hol.Not(d.part)))
	}
	if d.rule.whole < 0 {
		return b.taken(name, l, d.rule, whole, parts)
	}
	return b.clashing(d.part, whole, b.made(name, l, d.rule, parts))
}

// clashing returns False from a formula and its negation.
func (b *builder) clashing(a api.Term, not, yes kernel.Theorem) kernel.Theorem {
	return derive.Elim(b.book.Of("notE", nil, a, hol.False()), not, yes)
}

// contradicted returns False from a formula that holds, as its literal fails.
func (b *builder) contradicted(x *encoder, t api.Term, held kernel.Theorem) kernel.Theorem {
	return b.clashing(t, b.known(x, t, false), held)
}

// known returns that a formula holds, or that it does not, from the hypothesis that its literal does so.
func (b *builder) known(x *encoder, t api.Term, holds bool) kernel.Theorem {
	name, l := hol.Connective(t)
	if name != "Not" {
		if holds {
			return b.Assume(hol.Truth(t))
		}
		return b.Assume(hol.Truth(hol.Not(t)))
	}
	inner := b.known(x, l[0], !holds)
	if holds {
		return inner
	}
	// Not (Not a) from a
	eq := b.book.Of("not_not", nil, l[0])
	return derive.Elim(b.book.Of("iffD2", nil, hol.Not(t), l[0]), eq, inner)
}

// always is the proof that a formula implies another one, which holds.
func (b *builder) always(a api.Term, t kernel.Theorem) kernel.Theorem {
	return derive.Discharge(t, hol.Truth(a))
}

// never is the proof that a formula that does not hold implies another one.
func (b *builder) never(a, c api.Term, not kernel.Theorem) kernel.Theorem {
	t := hol.Truth(a)
	return derive.Discharge(derive.Elim(b.book.Of("notE", nil, a, c), not, b.Assume(t)), t)
}

// made returns a formula with a connective from its parts: those that stand positively in the clause do not hold, the others do.
func (b *builder) made(name string, l []api.Term, r rule, parts [2]kernel.Theorem) kernel.Theorem {
	switch name {
	case "True":
		return b.book.Of("trueI", nil)
	case "And":
		return derive.Elim(b.book.Of("conjI", nil, l...), parts[0], parts[1])
	case "Or":
		if r.first != 0 {
			return derive.Elim(b.book.Of("disjI1", nil, l...), parts[0])
		}
		return derive.Elim(b.book.Of("disjI2", nil, l[1], l[0]), parts[1])
	case "Implies":
		proof := b.never
		if r.first != 0 {
			return derive.Elim(b.book.Of("impI", nil, l...), proof(l[0], l[1], parts[0]))
		}
		return derive.Elim(b.book.Of("impI", nil, l...), b.always(l[0], parts[1]))
	}
	iffI := b.book.Of("iffI", nil, l...)
	if r.first > 0 {
		return derive.Elim(iffI, b.never(l[0], l[1], parts[0]), b.never(l[1], l[0], parts[1]))
	}
	return derive.Elim(iffI, b.always(l[0], parts[1]), b.always(l[1], parts[0]))
}

// taken returns False from a formula with a connective that holds, and its parts.
func (b *builder) taken(name string, l []api.Term, r rule, whole kernel.Theorem, parts [2]kernel.Theorem) kernel.Theorem {
	switch name {
	case "False":
		return whole
	case "And":
		if r.first != 0 {
			return b.clashing(l[0], parts[0], derive.Elim(b.book.Of("conjunct1", nil, l...), whole))
		}
		return b.clashing(l[1], parts[1], derive.Elim(b.book.Of("conjunct2", nil, l...), whole))
	case "Or":
		either := b.book.Of("disjE", nil, l[0], l[1], hol.False())
		return derive.Elim(either, whole, b.never(l[0], hol.False(), parts[0]), b.never(l[1], hol.False(), parts[1]))
	case "Implies":
		return b.clashing(l[1], parts[1], derive.Elim(b.book.Of("mp", nil, l...), whole, parts[0]))
	}
	if r.first < 0 {
		return b.clashing(l[1], parts[1], derive.Elim(b.book.Of("iffD1", nil, l...), whole, parts[0]))
	}
	return b.clashing(l[0], parts[0], derive.Elim(b.book.Of("iffD2", nil, l...), whole, parts[1]))
}
