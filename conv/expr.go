package conv

import "triforium/api"

// Kinds of expressions.
const (
	All    = 1  // the term is equal to itself
	No     = 2  // never applies
	Beta   = 3  // a beta step of the term itself
	Eta    = 4  // an eta step of the term itself
	Rule   = 5  // the term is rewritten by the theorem Num, from left to right, as a pattern
	Then   = 6  // one conversion, and then another one
	Else   = 7  // one conversion; if it does not apply, another one
	Repeat = 8  // as often as it applies
	Arg    = 9  // the argument of an application
	Fun    = 10 // its function
	Body   = 11 // the body of an abstraction
	Sub    = 12 // all direct parts to which it applies (at least one)
	Top    = 13 // from the outside to the inside, everywhere
	Bottom = 14 // from the inside to the outside, everywhere
	Once   = 15 // the outermost place to which it applies, the first one of several
	Norm   = 16 // all beta steps
)

const lastKind = Norm

// Limits of expressions.
const (
	maxNodes = 100
	maxNest  = 20
)

// Expr is a conversion as data: its kind, the number of a theorem, and parts.
type Expr struct {
	Kind, Num int
	Kids      []Expr
}

// Form returns the error of an expression for so many rules.
func Form(e Expr, rules int) api.Errno {
	nodes := 0
	depth := e.measure(&nodes)
	if nodes > maxNodes {
		return api.ErrCount
	}
	if depth > maxNest {
		return api.ErrDepth
	}
	return e.form(rules)
}

// measure returns the depth of an expression, and counts its nodes; of one with too many nodes it looks at no more than one further, and the depth is any.
func (e Expr) measure(nodes *int) int {
	depth := 0
	*nodes++
	for _, k := range e.Kids {
		if *nodes > maxNodes {
			break
		}
		depth = max(depth, k.measure(nodes))
	}
	return depth + 1
}

func (e Expr) form(rules int) api.Errno {
	if e.Kind < All || e.Kind > lastKind || len(e.Kids) != kidsOf(e.Kind) || e.Kind != Rule && e.Num != 0 {
		return api.ErrForm
	}
	if e.Kind == Rule && (e.Num < 0 || e.Num >= rules) {
		return api.ErrRange
	}
	for _, k := range e.Kids {
		if err := k.form(rules); err != api.OK {
			return err
		}
	}
	return api.OK
}

// kidsOf returns how many kids an expression of a kind has.
func kidsOf(kind int) int {
	switch kind {
	case Then, Else:
		return 2
	case Repeat, Arg, Fun, Body, Sub, Top, Bottom, Once:
		return 1
	}
	return 0
}
