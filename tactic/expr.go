package tactic

import (
	"slices"

	"triforium/api"
	"triforium/term"
)

// Kinds of expressions.
const (
	Pass    = 1  // the state as it is
	Fail    = 2  // no state
	Rule    = 3  // the subgoal At by the rule Num: resolution
	Erule   = 4  // by elimination
	Drule   = 5  // by destruction
	Assume  = 6  // by an assumption
	Rotate  = 7  // the subgoal At becomes the last one
	Protect = 8  // the assumptions of the subgoal At become one proposition: nothing may be taken of them
	Then    = 9  // one tactic, and then another one
	Or      = 10 // the states of one tactic, and then those of another one
	Else    = 11 // one tactic; if it has no state, another one
	Try     = 12 // one tactic; if it has no state, the state as it is
	Repeat  = 13 // as often as it applies
	Each    = 14 // on all subgoals, from the last one to the first one (its parts have At 0 for the subgoal)
	First   = 15 // the first state alone
	Solve   = 16 // the states alone that have fewer subgoals
	Unfold  = 17 // the subgoal At, in which the left side of the rule Num (an equation) is replaced by its right side
	Cut     = 18 // a new subgoal Prop ahead of the subgoal At, which has it as an assumption
)

const lastKind = Cut

// Limits of expressions.
const (
	maxNodes = 100
	maxNest  = 20
	maxAt    = 100
)

// Expr is a tactic as data.
type Expr struct {
	Kind, At, Num int
	Prop          api.Term
	Kids          []Expr
}

// copyExpr returns an expression in new memory.
func copyExpr(e Expr) Expr {
	e.Prop = term.Copy(e.Prop)
	e.Kids = slices.Clone(e.Kids)
	for i := range e.Kids {
		e.Kids[i] = copyExpr(e.Kids[i])
	}
	return e
}

// Form returns the error of an expression for so many rules.
func Form(e Expr, rules int) api.Errno {
	nodes := 0
	depth := measure(&e, &nodes)
	if nodes > maxNodes {
		return api.ErrCount
	}
	if depth > maxNest {
		return api.ErrDepth
	}
	return formBelow(&e, rules)
}

// measure returns the depth of an expression, and counts its nodes; of one with too many nodes it looks at no more than one further, and the depth is any.
func measure(e *Expr, nodes *int) int {
	depth := 0
	*nodes++
	for i := range e.Kids {
		if *nodes > maxNodes {
			break
		}
		depth = max(depth, measure(&e.Kids[i], nodes))
	}
	return depth + 1
}

func formBelow(e *Expr, rules int) api.Errno {
	if err := nodeForm(e, rules); err != api.OK {
		return err
	}
	for i := range e.Kids {
		if err := formBelow(&e.Kids[i], rules); err != api.OK {
			return err
		}
	}
	return api.OK
}

// takes says what a kind of expression takes.
type takes struct {
	kids    int
	at, num bool
	prop    bool
}

// takesOf returns what a kind takes; false, if there is no such kind.
func takesOf(kind int) (takes, bool) {
	switch kind {
	case Pass, Fail:
		return takes{}, true
	case Rule, Erule, Drule, Unfold:
		return takes{at: true, num: true}, true
	case Assume, Rotate, Protect:
		return takes{at: true}, true
	case Cut:
		return takes{at: true, prop: true}, true
	case Then, Or, Else:
		return takes{kids: 2}, true
	case Try, Repeat, Each, First, Solve:
		return takes{kids: 1}, true
	}
	return takes{}, false
}

func nodeForm(e *Expr, rules int) api.Errno {
	k, ok := takesOf(e.Kind)
	if !ok || len(e.Kids) != k.kids || !k.at && e.At != 0 || !k.num && e.Num != 0 || !k.prop && !isZero(e.Prop) {
		return api.ErrForm
	}
	if k.at && (e.At < 0 || e.At > maxAt) || k.num && (e.Num < 0 || e.Num >= rules) {
		return api.ErrRange
	}
	return api.OK
}

// isZero reports whether a term is the zero value.
func isZero(t api.Term) bool {
	k := t.Type
	return t.Op == 0 && t.Name == "" && t.Num == 0 && len(t.Kids) == 0 && k.Op == 0 && k.Name == "" && k.Index == 0 && len(k.Sort) == 0 && len(k.Args) == 0
}
