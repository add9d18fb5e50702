package hol

import (
	"maps"

	"triforium/derive"
	"triforium/kernel"
)

// logicProofs returns the proofs of the derived rules of HOL.
func logicProofs() map[string]proof {
	out := map[string]proof{}
	for _, l := range [...]map[string]proof{ruleProofs(), equalityProofs(), negationProofs(), constantProofs(), simpProofs(), congruenceProofs()} {
		maps.Copy(out, l)
	}
	return out
}

// theorem is short for what proofs are about.
type theorem = kernel.Theorem

// itself is the proof of what is assumed.
func itself(h theorem) theorem { return h }

func ruleProofs() map[string]proof {
	return map[string]proof{
		"conjE": func(p *prover, h []theorem) theorem {
			return derive.Elim(h[1], p.by("conjunct1", h[0]), p.by("conjunct2", h[0]))
		},
		"impE": func(p *prover, h []theorem) theorem { return derive.Elim(h[2], p.by("mp", h[0], h[1])) },
		"allE": func(p *prover, h []theorem) theorem { return derive.Elim(h[1], p.to("P x", "spec", h[0])) },
		"iffD1": func(p *prover, h []theorem) theorem {
			return p.with("subst", "P", "%P'. P'", h[0], h[1])
		},
		"iffD2": func(p *prover, h []theorem) theorem { return p.by("iffD1", p.by("sym", h[0]), h[1]) },
		"classical": func(p *prover, h []theorem) theorem {
			return p.by("disjE", p.with("excluded_middle", "P", "P"), p.imp("P", itself), h[0])
		},
		"ccontr": func(p *prover, h []theorem) theorem {
			return p.by("classical", p.imp("Not P", func(n theorem) theorem {
				return p.to("P", "falseE", derive.Elim(h[0], n))
			}))
		},
	}
}

func equalityProofs() map[string]proof {
	return map[string]proof{
		"sym": func(p *prover, h []theorem) theorem {
			return p.with("subst", "P", "%z. Equal z x", h[0], p.to("Equal x x", "refl"))
		},
		"trans": func(p *prover, h []theorem) theorem { return p.with("subst", "P", "%u. Equal x u", h[1], h[0]) },
		"meta_eq": func(p *prover, h []theorem) theorem {
			e := p.Applied(derive.Same(p.term("Equal x x").Kids[0]), derive.Stating(h[0]))
			e = p.Applied(derive.Same(constant("Trueprop", p.a)), e)
			return derive.Changed(e, p.to("Equal x x", "refl"))
		},
		"arg_cong": func(p *prover, h []theorem) theorem {
			return p.with("subst", "P", "%u. Equal (f x) (f u)", h[0], p.to("Equal (f x) (f x)", "refl"))
		},
		"fun_cong": func(p *prover, h []theorem) theorem {
			return p.with("subst", "P", "%g. Equal (f x) (g x)", h[0], p.to("Equal (f x) (f x)", "refl"))
		},
		"cong": func(p *prover, h []theorem) theorem {
			return p.with("subst", "P", "%u. Equal (f x) (g u)", h[1], p.to("Equal (f x) (g x)", "fun_cong", h[0]))
		},
		"the_equality": func(p *prover, h []theorem) theorem {
			back := func(e theorem) theorem { return p.with("subst", "P", "P", p.by("sym", e), h[0]) }
			same := p.by("iffI", derive.Special(h[1], p.term("x")), p.imp("Equal x a", back))
			same = p.to("Equal P (%x. Equal x a)", "ext", p.all("x", same))
			return p.by("trans", p.with("arg_cong", "f", "The", same), p.with("the_eq", "a", "a"))
		},
		"eq_True": func(p *prover, h []theorem) theorem {
			return p.iff("P", "True", func(theorem) theorem { return p.truly() }, func(theorem) theorem { return h[0] })
		},
		"eq_False": func(p *prover, h []theorem) theorem {
			return p.iff("P", "False", func(a theorem) theorem { return p.absurd("False", h[0], a) }, p.anything("P"))
		},
	}
}

// anything is the proof of a formula from False.
func (p *prover) anything(goal string) func(theorem) theorem {
	return func(h theorem) theorem { return p.to(goal, "falseE", h) }
}

func negationProofs() map[string]proof {
	return map[string]proof{
		"not_not": func(p *prover, _ []theorem) theorem {
			return p.iff("Not (Not P)", "P", func(h theorem) theorem {
				return p.by("ccontr", p.imp("Not P", func(n theorem) theorem { return p.absurd("False", h, n) }))
			}, func(h theorem) theorem {
				return p.denied("Not P", func(n theorem) theorem { return p.absurd("False", n, h) })
			})
		},
		"not_conj": (*prover).notConj, "not_disj": (*prover).notDisj, "not_imp": (*prover).notImp, "imp_disj": (*prover).impDisj,
		"not_all": (*prover).notAll, "not_ex": (*prover).notEx,
	}
}

func (p *prover) notConj([]theorem) theorem {
	return p.iff("Not (And P Q)", "Or (Not P) (Not Q)", func(h theorem) theorem {
		return p.cases("P", func(a theorem) theorem {
			n := p.denied("Q", func(b theorem) theorem { return p.absurd("False", h, p.by("conjI", a, b)) })
			return p.to("Or (Not P) (Not Q)", "disjI2", n)
		}, func(n theorem) theorem { return p.to("Or (Not P) (Not Q)", "disjI1", n) })
	}, func(h theorem) theorem {
		part := func(rule string) func(theorem) theorem {
			return func(n theorem) theorem {
				return p.denied("And P Q", func(a theorem) theorem { return p.absurd("False", n, p.by(rule, a)) })
			}
		}
		return p.by("disjE", h, p.imp("Not P", part("conjunct1")), p.imp("Not Q", part("conjunct2")))
	})
}

func (p *prover) notDisj([]theorem) theorem {
	return p.iff("Not (Or P Q)", "And (Not P) (Not Q)", func(h theorem) theorem {
		part := func(s, rule string) theorem {
			return p.denied(s, func(a theorem) theorem { return p.absurd("False", h, p.to("Or P Q", rule, a)) })
		}
		return p.by("conjI", part("P", "disjI1"), part("Q", "disjI2"))
	}, func(h theorem) theorem {
		part := func(rule string) func(theorem) theorem {
			return func(a theorem) theorem { return p.absurd("False", p.by(rule, h), a) }
		}
		return p.denied("Or P Q", func(a theorem) theorem {
			return p.by("disjE", a, p.imp("P", part("conjunct1")), p.imp("Q", part("conjunct2")))
		})
	})
}

func (p *prover) notImp([]theorem) theorem {
	return p.iff("Not (Implies P Q)", "And P (Not Q)", func(h theorem) theorem {
		a := p.by("ccontr", p.imp("Not P", func(n theorem) theorem {
			return p.absurd("False", h, p.by("impI", p.imp("P", func(a theorem) theorem { return p.absurd("Q", n, a) })))
		}))
		b := p.denied("Q", func(b theorem) theorem {
			return p.absurd("False", h, p.by("impI", p.imp("P", func(theorem) theorem { return b })))
		})
		return p.by("conjI", a, b)
	}, func(h theorem) theorem {
		return p.denied("Implies P Q", func(i theorem) theorem {
			return p.absurd("False", p.by("conjunct2", h), p.by("mp", i, p.by("conjunct1", h)))
		})
	})
}

func (p *prover) impDisj([]theorem) theorem {
	goal := "Or (Not P) Q"
	return p.iff("Implies P Q", goal, func(h theorem) theorem {
		return p.cases("P", func(a theorem) theorem {
			return p.to(goal, "disjI2", p.by("mp", h, a))
		}, func(n theorem) theorem { return p.to(goal, "disjI1", n) })
	}, func(h theorem) theorem {
		return p.by("impI", p.imp("P", func(a theorem) theorem {
			return p.by("disjE", h, p.imp("Not P", func(n theorem) theorem { return p.absurd("Q", n, a) }), p.imp("Q", itself))
		}))
	})
}

func (p *prover) notAll([]theorem) theorem {
	some := "Ex (%x. Not (P x))"
	return p.iff("Not (All P)", some, func(h theorem) theorem {
		return p.by("ccontr", p.imp("Not ("+some+")", func(none theorem) theorem {
			each := p.by("ccontr", p.imp("Not (P x)", func(n theorem) theorem {
				return p.absurd("False", none, p.to(some, "exI", n))
			}))
			return p.absurd("False", h, p.to("All P", "allI", p.all("x", each)))
		}))
	}, func(h theorem) theorem {
		one := p.imp("Not (P x)", func(n theorem) theorem {
			return p.denied("All P", func(a theorem) theorem { return p.absurd("False", n, p.to("P x", "spec", a)) })
		})
		return p.by("exE", h, p.all("x", one))
	})
}

func (p *prover) notEx([]theorem) theorem {
	none := "All (%x. Not (P x))"
	return p.iff("Not (Ex P)", none, func(h theorem) theorem {
		each := p.denied("P x", func(a theorem) theorem { return p.absurd("False", h, p.to("Ex P", "exI", a)) })
		return p.to(none, "allI", p.all("x", each))
	}, func(h theorem) theorem {
		return p.denied("Ex P", func(a theorem) theorem {
			one := p.imp("P x", func(b theorem) theorem {
				return p.absurd("False", p.to("Not (P x)", "spec", h), b)
			})
			return p.by("exE", a, p.all("x", one))
		})
	})
}
