package hol

import (
	"maps"

	"triforium/derive"
)

// natProofs returns the proofs of the derived rules of Nat.
func natProofs() map[string]proof {
	out := map[string]proof{}
	for _, l := range [...]map[string]proof{plusProofs(), sucProofs(), leProofs(), lessProofs()} {
		maps.Copy(out, l)
	}
	return out
}

// induct proves a formula of a number by induction.
func (p *prover) induct(n, goal string, zero theorem, suc func(known theorem) theorem) theorem {
	return p.use("nat_induct", []given{{"P", "%" + n + ". " + goal}, {"n", n}}, "", zero, p.all(n, p.imp(goal, suc)))
}

// natCases proves a goal from what a number may be: Zero, or Suc of another one.
func (p *prover) natCases(n, m string, zero, suc func(is theorem) theorem) theorem {
	both := p.with("nat_cases", "n", n, p.imp("Equal "+n+" Zero", zero))
	return derive.Elim(both, p.all(m, p.imp("Equal "+n+" (Suc "+m+")", suc)))
}

// everyNumber proves `All (%n. goal)` from what n may be: the goals with Zero, and with Suc of m, are proved.
func (p *prover) everyNumber(n, m, goal string, zero, suc theorem) theorem {
	back := func(t theorem) func(theorem) theorem {
		return func(is theorem) theorem { return p.with("subst", "P", "%"+n+". "+goal, p.by("sym", is), t) }
	}
	each := p.natCases(n, m, back(zero), back(suc))
	return p.to("All (%"+n+". "+goal+")", "allI", p.all(n, each))
}

// inductiveEquation proves that an equation holds for a number, by equations, and what is known of the number before.
func (p *prover) inductiveEquation(n, goal, zeroGoal, sucGoal, rules string) theorem {
	return p.induct(n, goal, p.equal(zeroGoal, rules), func(known theorem) theorem { return p.equal(sucGoal, rules, known) })
}

func plusProofs() map[string]proof {
	return map[string]proof{
		"plus_Zero2": func(p *prover, _ []theorem) theorem {
			return p.inductiveEquation("n", "Equal (plus n Zero) n", "Equal (plus Zero Zero) Zero", "Equal (plus (Suc n) Zero) (Suc n)", "plus_Zero plus_Suc")
		},
		"plus_Suc2": func(p *prover, _ []theorem) theorem {
			return p.inductiveEquation("m", "Equal (plus m (Suc n)) (Suc (plus m n))", "Equal (plus Zero (Suc n)) (Suc (plus Zero n))",
				"Equal (plus (Suc m) (Suc n)) (Suc (plus (Suc m) n))", "plus_Zero plus_Suc")
		},
		"plus_commute": func(p *prover, _ []theorem) theorem {
			return p.inductiveEquation("m", "Equal (plus m n) (plus n m)", "Equal (plus Zero n) (plus n Zero)", "Equal (plus (Suc m) n) (plus n (Suc m))",
				"plus_Zero plus_Suc plus_Zero2 plus_Suc2")
		},
		"plus_assoc": func(p *prover, _ []theorem) theorem {
			return p.inductiveEquation("k", "Equal (plus (plus k m) n) (plus k (plus m n))", "Equal (plus (plus Zero m) n) (plus Zero (plus m n))",
				"Equal (plus (plus (Suc k) m) n) (plus (Suc k) (plus m n))", "plus_Zero plus_Suc")
		},
		"plus_left_commute": func(p *prover, _ []theorem) theorem {
			return p.inductiveEquation("k", "Equal (plus k (plus m n)) (plus m (plus k n))", "Equal (plus Zero (plus m n)) (plus m (plus Zero n))",
				"Equal (plus (Suc k) (plus m n)) (plus m (plus (Suc k) n))", "plus_Zero plus_Suc plus_Suc2")
		},
		"plus_cancel": func(p *prover, h []theorem) theorem {
			goal := "Implies (Equal (plus k m) (plus k n)) (Equal m n)"
			zero := p.by("impI", p.imp("Equal (plus Zero m) (plus Zero n)", func(e theorem) theorem { return p.changed(e, "plus_Zero") }))
			all := p.induct("k", goal, zero, func(known theorem) theorem {
				return p.by("impI", p.imp("Equal (plus (Suc k) m) (plus (Suc k) n)", func(e theorem) theorem {
					return p.by("mp", known, p.by("Suc_inject", p.changed(e, "plus_Suc")))
				}))
			})
			return p.by("mp", all, h[0])
		},
	}
}

func sucProofs() map[string]proof {
	return map[string]proof{
		"Suc_eq": func(p *prover, _ []theorem) theorem {
			return p.iff("Equal (Suc m) (Suc n)", "Equal m n", p.step("Suc_inject"), func(h theorem) theorem { return p.with("arg_cong", "f", "Suc", h) })
		},
		"Suc_not_Zero": func(p *prover, _ []theorem) theorem {
			return p.iff("Equal (Suc n) Zero", "False", func(h theorem) theorem { return p.to("False", "Suc_Zero", h) }, p.anything("Equal (Suc n) Zero"))
		},
		"Zero_not_Suc": func(p *prover, _ []theorem) theorem {
			return p.iff("Equal Zero (Suc n)", "False", func(h theorem) theorem { return p.to("False", "Suc_Zero", p.by("sym", h)) }, p.anything("Equal Zero (Suc n)"))
		},
		"nat_cases": func(p *prover, h []theorem) theorem {
			goal := "Or (Equal n Zero) (Ex (%m. Equal n (Suc m)))"
			zero := p.to("Or (Equal Zero Zero) (Ex (%m. Equal Zero (Suc m)))", "disjI1", p.to("Equal Zero Zero", "refl"))
			either := p.induct("n", goal, zero, func(theorem) theorem {
				some := p.use("exI", []given{{"P", "%m. Equal (Suc n) (Suc m)"}, {"x", "n"}}, "", p.to("Equal (Suc n) (Suc n)", "refl"))
				return p.to("Or (Equal (Suc n) Zero) (Ex (%m. Equal (Suc n) (Suc m)))", "disjI2", some)
			})
			return p.by("disjE", either, h[0], p.imp("Ex (%m. Equal n (Suc m))", func(e theorem) theorem { return p.by("exE", e, h[1]) }))
		},
	}
}

func leProofs() map[string]proof {
	return map[string]proof{
		"le_refl": func(p *prover, _ []theorem) theorem {
			return p.induct("n", "le n n", p.reduced("le Zero Zero", "le_Zero", p.truly()), func(known theorem) theorem {
				return p.reduced("le (Suc n) (Suc n)", "le_Suc", known)
			})
		},
		"le_trans": (*prover).leTrans, "le_antisym": (*prover).leAntisym, "le_total": (*prover).leTotal,
		"le_plus": func(p *prover, _ []theorem) theorem {
			return p.induct("m", "le m (plus n m)", p.reduced("le Zero (plus n Zero)", "le_Zero", p.truly()), func(known theorem) theorem {
				return p.reduced("le (Suc m) (plus n (Suc m))", "plus_Suc2 le_Suc", known)
			})
		},
		"plus_le_cancel": func(p *prover, _ []theorem) theorem {
			return p.inductiveEquation("k", "Equal (le (plus k m) (plus k n)) (le m n)", "Equal (le (plus Zero m) (plus Zero n)) (le m n)",
				"Equal (le (plus (Suc k) m) (plus (Suc k) n)) (le m n)", "plus_Zero plus_Suc le_Suc")
		},
		"plus_le_mono": func(p *prover, h []theorem) theorem {
			second := p.reduced("le (plus k i) (plus k n)", "plus_le_cancel", h[1])
			first := p.reduced("le (plus n k) (plus n m)", "plus_le_cancel", h[0])
			for _, s := range [...]string{"Equal (plus n k) (plus k n)", "Equal (plus n m) (plus m n)"} {
				e := p.meta(p.to(s, "plus_commute"))
				first = derive.Changed(p.rewritten(first.Prop(), []derive.Equation{e}), first)
			}
			return p.by("le_trans", second, first)
		},
		"le_diff": (*prover).leDiff,
	}
}

func (p *prover) leTrans(h []theorem) theorem {
	goal := "Implies (le k m) (Implies (le m n) (le k n))"
	at := func(k, m, n string) string {
		return "Implies (le " + k + " " + m + ") (Implies (le " + m + " " + n + ") (le " + k + " " + n + "))"
	}
	general := func(k string) string { return "All (%m. All (%n. " + at(k, "m", "n") + "))" }
	// what holds as its second part, or its first one, cannot be otherwise
	zero := p.reduced(general("Zero"), "le_Zero imp_True2 all_simp", p.truly())
	all := p.induct("k", general("k"), zero, func(known theorem) theorem {
		first := p.reduced("All (%n. "+at("(Suc k)", "Zero", "n")+")", "le_Suc_Zero imp_False all_simp", p.truly())
		none := p.reduced(at("(Suc k)", "(Suc i)", "Zero"), "le_Suc_Zero imp_False imp_True2", p.truly())
		known = p.to("All (%n. "+at("k", "i", "n")+")", "spec", known)
		some := p.reduced(at("(Suc k)", "(Suc i)", "(Suc n')"), "le_Suc", p.to(at("k", "i", "n'"), "spec", known))
		second := p.everyNumber("n", "n'", at("(Suc k)", "(Suc i)", "n"), none, some)
		return p.everyNumber("m", "i", "All (%n. "+at("(Suc k)", "m", "n")+")", first, second)
	})
	one := p.to(goal, "spec", p.to("All (%n. "+goal+")", "spec", all))
	return p.by("mp", p.by("mp", one, h[0]), h[1])
}

func (p *prover) leAntisym(h []theorem) theorem {
	at := func(m, n string) string {
		return "Implies (le " + m + " " + n + ") (Implies (le " + n + " " + m + ") (Equal " + m + " " + n + "))"
	}
	rules := "le_Suc_Zero le_Suc imp_False imp_True2 eq_refl Suc_eq"
	none := p.reduced(at("Zero", "Zero"), rules, p.truly())
	some := p.reduced(at("Zero", "(Suc i)"), rules, p.truly())
	zero := p.everyNumber("n", "i", at("Zero", "n"), none, some)
	all := p.induct("m", "All (%n. "+at("m", "n")+")", zero, func(known theorem) theorem {
		none := p.reduced(at("(Suc m)", "Zero"), rules, p.truly())
		some := p.reduced(at("(Suc m)", "(Suc i)"), rules, p.to(at("m", "i"), "spec", known))
		return p.everyNumber("n", "i", at("(Suc m)", "n"), none, some)
	})
	return p.by("mp", p.by("mp", p.to(at("m", "n"), "spec", all), h[0]), h[1])
}

func (p *prover) leTotal([]theorem) theorem {
	at := func(m, n string) string { return "Or (le " + m + " " + n + ") (le " + n + " " + m + ")" }
	rules := "le_Zero le_Suc or_True or_True2 all_simp"
	zero := p.reduced("All (%n. "+at("Zero", "n")+")", rules, p.truly())
	all := p.induct("m", "All (%n. "+at("m", "n")+")", zero, func(known theorem) theorem {
		none := p.reduced(at("(Suc m)", "Zero"), rules, p.truly())
		some := p.reduced(at("(Suc m)", "(Suc i)"), rules, p.to(at("m", "i"), "spec", known))
		return p.everyNumber("n", "i", at("(Suc m)", "n"), none, some)
	})
	return p.to(at("m", "n"), "spec", all)
}

func (p *prover) leDiff(h []theorem) theorem {
	at := func(m, n string) string {
		return "Implies (le " + m + " " + n + ") (Ex (%k. Equal " + n + " (plus " + m + " k)))"
	}
	zero := p.by("impI", p.imp("le Zero n", func(theorem) theorem {
		return p.use("exI", []given{{"P", "%k. Equal n (plus Zero k)"}, {"x", "n"}}, "", p.equal("Equal n (plus Zero n)", "plus_Zero"))
	}))
	zero = p.to("All (%n. "+at("Zero", "n")+")", "allI", p.all("n", zero))
	all := p.induct("m", "All (%n. "+at("m", "n")+")", zero, func(known theorem) theorem {
		none := p.reduced(at("(Suc m)", "Zero"), "le_Suc_Zero imp_False", p.truly())
		some := p.by("impI", p.imp("le (Suc m) (Suc i)", func(le theorem) theorem {
			ex := p.by("mp", p.to(at("m", "i"), "spec", known), p.changed(le, "le_Suc"))
			one := p.imp("Equal i (plus m k)", func(e theorem) theorem {
				return p.use("exI", []given{{"P", "%k. Equal (Suc i) (plus (Suc m) k)"}, {"x", "k"}}, "", p.equal("Equal (Suc i) (plus (Suc m) k)", "plus_Suc", e))
			})
			return p.by("exE", ex, p.all("k", one))
		}))
		return p.everyNumber("n", "i", at("(Suc m)", "n"), none, some)
	})
	return p.by("mp", p.to(at("m", "n"), "spec", all), h[0])
}

func lessProofs() map[string]proof {
	return map[string]proof{
		"less_le": func(p *prover, _ []theorem) theorem {
			at := func(m, n string) string { return "Equal (less " + m + " " + n + ") (le (Suc " + m + ") " + n + ")" }
			return p.doubleEquation(at, "less_Zero less_Zero_Suc less_Suc le_Zero le_Suc_Zero le_Suc")
		},
		"not_le": func(p *prover, _ []theorem) theorem {
			at := func(m, n string) string { return "Equal (Not (le " + m + " " + n + ")) (less " + n + " " + m + ")" }
			return p.doubleEquation(at, "less_Zero less_Zero_Suc less_Suc le_Zero le_Suc_Zero le_Suc not_True not_False")
		},
		"not_less": func(p *prover, _ []theorem) theorem {
			e := p.by("sym", p.to("Equal (Not (le n m)) (less m n)", "not_le"))
			return p.equal("Equal (Not (less m n)) (le n m)", "not_not", e)
		},
	}
}

// doubleEquation proves an equation of two numbers by induction on the first one, for all second ones.
func (p *prover) doubleEquation(at func(m, n string) string, rules string) theorem {
	step := func(m string, known ...theorem) theorem {
		return p.everyNumber("n", "i", at(m, "n"), p.equal(at(m, "Zero"), rules), p.equal(at(m, "(Suc i)"), rules, known...))
	}
	all := p.induct("m", "All (%n. "+at("m", "n")+")", step("Zero"), func(known theorem) theorem {
		return step("(Suc m)", p.to(at("m", "i"), "spec", known))
	})
	return p.to(at("m", "n"), "spec", all)
}
