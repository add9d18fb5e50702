package hol

import "triforium/derive"

// constantProofs proves the equations of And and Or with True and False.
func constantProofs() map[string]proof {
	return map[string]proof{
		"and_True": func(p *prover, _ []theorem) theorem {
			return p.iff("And True P", "P", p.step("conjunct2"), func(h theorem) theorem { return p.by("conjI", p.truly(), h) })
		},
		"and_True2": func(p *prover, _ []theorem) theorem {
			return p.iff("And P True", "P", p.step("conjunct1"), func(h theorem) theorem { return p.by("conjI", h, p.truly()) })
		},
		"and_False": func(p *prover, _ []theorem) theorem {
			return p.iff("And False P", "False", p.step("conjunct1"), p.anything("And False P"))
		},
		"and_False2": func(p *prover, _ []theorem) theorem {
			return p.iff("And P False", "False", p.step("conjunct2"), p.anything("And P False"))
		},
		"or_True":  func(p *prover, _ []theorem) theorem { return p.by("eq_True", p.to("Or True P", "disjI1", p.truly())) },
		"or_True2": func(p *prover, _ []theorem) theorem { return p.by("eq_True", p.to("Or P True", "disjI2", p.truly())) },
		"or_False": func(p *prover, _ []theorem) theorem {
			return p.iff("Or False P", "P", func(h theorem) theorem {
				return p.by("disjE", h, p.imp("False", p.anything("P")), p.imp("P", itself))
			}, func(h theorem) theorem { return p.to("Or False P", "disjI2", h) })
		},
		"or_False2": func(p *prover, _ []theorem) theorem {
			return p.iff("Or P False", "P", func(h theorem) theorem {
				return p.by("disjE", h, p.imp("P", itself), p.imp("False", p.anything("P")))
			}, func(h theorem) theorem { return p.to("Or P False", "disjI1", h) })
		},
	}
}

// step is the proof by a rule of one premise.
func (p *prover) step(rule string) func(theorem) theorem {
	return func(h theorem) theorem { return p.by(rule, h) }
}

// simpProofs proves the other equations that simplify.
func simpProofs() map[string]proof {
	return map[string]proof{
		"imp_True": func(p *prover, _ []theorem) theorem {
			return p.iff("Implies True P", "P", func(h theorem) theorem { return p.by("mp", h, p.truly()) }, func(h theorem) theorem {
				return p.by("impI", p.imp("True", func(theorem) theorem { return h }))
			})
		},
		"imp_True2": func(p *prover, _ []theorem) theorem {
			return p.by("eq_True", p.by("impI", p.imp("P", func(theorem) theorem { return p.truly() })))
		},
		"imp_False": func(p *prover, _ []theorem) theorem {
			return p.by("eq_True", p.by("impI", p.imp("False", p.anything("P"))))
		},
		"imp_False2": func(p *prover, _ []theorem) theorem {
			return p.iff("Implies P False", "Not P", func(h theorem) theorem {
				return p.denied("P", func(a theorem) theorem { return p.by("mp", h, a) })
			}, func(h theorem) theorem {
				return p.by("impI", p.imp("P", func(a theorem) theorem { return p.absurd("False", h, a) }))
			})
		},
		"not_True": func(p *prover, _ []theorem) theorem {
			return p.iff("Not True", "False", func(h theorem) theorem { return p.absurd("False", h, p.truly()) }, p.anything("Not True"))
		},
		"not_False": func(p *prover, _ []theorem) theorem { return p.by("eq_True", p.denied("False", itself)) },
		"eq_refl":   func(p *prover, _ []theorem) theorem { return p.by("eq_True", p.to("Equal x x", "refl")) },
		"all_simp": func(p *prover, _ []theorem) theorem {
			return p.iff("All (%x. P)", "P", func(h theorem) theorem {
				return p.use("spec", []given{{"P", "%x. P"}, {"x", "x"}}, "", h)
			}, func(h theorem) theorem { return p.to("All (%x. P)", "allI", p.all("x", h)) })
		},
		"ex_simp": func(p *prover, _ []theorem) theorem {
			return p.iff("Ex (%x. P)", "P", func(h theorem) theorem {
				return p.by("exE", h, p.all("x", p.imp("P", itself)))
			}, func(h theorem) theorem { return p.use("exI", []given{{"P", "%x. P"}, {"x", "x"}}, "", h) })
		},
		"if_True": func(p *prover, _ []theorem) theorem { return p.to("Equal (If True x y) x", "if_true", p.truly()) },
		"if_False": func(p *prover, _ []theorem) theorem {
			return p.to("Equal (If False x y) y", "if_false", p.denied("False", itself))
		},
	}
}

func congruenceProofs() map[string]proof {
	return map[string]proof{
		"conj_cong": func(p *prover, e []theorem) theorem {
			return p.iff("And P Q", "And P' Q'", func(h theorem) theorem {
				a := p.by("iffD1", e[0], p.by("conjunct1", h))
				return p.by("conjI", a, p.by("iffD1", derive.Elim(e[1], a), p.by("conjunct2", h)))
			}, func(h theorem) theorem {
				a := p.by("conjunct1", h)
				b := p.by("iffD2", derive.Elim(e[1], a), p.by("conjunct2", h))
				return p.by("conjI", p.by("iffD2", e[0], a), b)
			})
		},
		"imp_cong": func(p *prover, e []theorem) theorem {
			return p.iff("Implies P Q", "Implies P' Q'", func(h theorem) theorem {
				return p.by("impI", p.imp("P'", func(a theorem) theorem {
					return p.by("iffD1", derive.Elim(e[1], a), p.by("mp", h, p.by("iffD2", e[0], a)))
				}))
			}, func(h theorem) theorem {
				return p.by("impI", p.imp("P", func(b theorem) theorem {
					a := p.by("iffD1", e[0], b)
					return p.by("iffD2", derive.Elim(e[1], a), p.by("mp", h, a))
				}))
			})
		},
		"if_cong":  (*prover).ifCong,
		"if_split": (*prover).ifSplit,
	}
}

func (p *prover) ifCong(e []theorem) theorem {
	both := func(first, between, last theorem) theorem {
		return p.by("trans", first, p.by("trans", between, p.by("sym", last)))
	}
	return p.cases("Q", func(q theorem) theorem {
		first := p.to("Equal (If P x y) x", "if_true", p.by("iffD2", e[0], q))
		return both(first, derive.Elim(e[1], q), p.to("Equal (If Q u v) u", "if_true", q))
	}, func(n theorem) theorem {
		no := p.denied("P", func(a theorem) theorem { return p.absurd("False", n, p.by("iffD1", e[0], a)) })
		first := p.to("Equal (If P x y) y", "if_false", no)
		return both(first, derive.Elim(e[2], n), p.to("Equal (If Q u v) v", "if_false", n))
	})
}

func (p *prover) ifSplit([]theorem) theorem {
	left, right := "P (If Q x y)", "And (Implies Q (P x)) (Implies (Not Q) (P y))"
	moved := func(e, h theorem) theorem { return p.with("subst", "P", "P", e, h) }
	return p.cases("Q", func(q theorem) theorem {
		e := p.to("Equal (If Q x y) x", "if_true", q)
		return p.iff(left, right, func(h theorem) theorem {
			yes := p.by("impI", p.imp("Q", func(theorem) theorem { return moved(e, h) }))
			no := p.by("impI", p.imp("Not Q", func(n theorem) theorem { return p.absurd("P y", n, q) }))
			return p.by("conjI", yes, no)
		}, func(h theorem) theorem { return moved(p.by("sym", e), p.by("mp", p.by("conjunct1", h), q)) })
	}, func(n theorem) theorem {
		e := p.to("Equal (If Q x y) y", "if_false", n)
		return p.iff(left, right, func(h theorem) theorem {
			yes := p.by("impI", p.imp("Q", func(q theorem) theorem { return p.absurd("P x", n, q) }))
			no := p.by("impI", p.imp("Not Q", func(theorem) theorem { return moved(e, h) }))
			return p.by("conjI", yes, no)
		}, func(h theorem) theorem { return moved(p.by("sym", e), p.by("mp", p.by("conjunct2", h), n)) })
	})
}
