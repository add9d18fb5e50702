package simp

import (
	"slices"

	"triforium/api"
	"triforium/conv"
	"triforium/derive"
	"triforium/hol"
	"triforium/kernel"
	"triforium/pattern"
	"triforium/term"
)

// equation is a theorem conditions ==> left == right.
type equation struct {
	derive.Rule
	conds       []api.Term
	left, right api.Term
	ordered     bool
	head        api.Term // of left
	args        int
}

// procedure is a Proc whose conversion was made.
type procedure struct {
	pattern api.Term
	conv    conv.Conv
}

// variables are the Vars and TVars of terms, by name and index.
type variables map[variable]bool

type variable struct {
	isType bool
	name   string
	index  int
}

func variablesOf(l ...api.Term) variables {
	v := variables{}
	whole := api.Term{Kids: l}
	for _, x := range term.Vars(whole) {
		v[variable{false, x.Name, x.Num}] = true
	}
	for _, k := range term.TypeVariables(whole) {
		if k.Op == api.TVar {
			v[variable{true, k.Name, k.Index}] = true
		}
	}
	return v
}

// within reports whether all of them are among others.
func (v variables) within(o variables) bool {
	for x := range v {
		if !o[x] {
			return false
		}
	}
	return true
}

// isTruth reports whether a proposition is Truth of something.
func isTruth(t api.Term) bool {
	_, ok := hol.Untruth(t)
	return ok
}

// isEquation reports whether conditions ==> left == right is an equation.
func isEquation(conds []api.Term, left, right api.Term) bool {
	if len(conds) > MaxConds {
		return false
	}
	for _, c := range conds {
		if !isTruth(c) {
			return false
		}
	}
	head, _ := term.Spine(left)
	if head.Op == api.Var {
		return false
	}
	return variablesOf(append(slices.Clone(conds), right)...).within(variablesOf(left))
}

// newEquation returns a theorem as an equation; false, if it is none.
func newEquation(base kernel.Base, t kernel.Theorem) (*equation, bool) {
	conds, concl := term.Strip(t.Prop())
	left, right, ok := term.IsEq(concl)
	if !ok || !isEquation(conds, left, right) {
		return nil, false
	}
	q := &equation{Rule: derive.NewRule(t), conds: conds, left: left, right: right}
	by := max(term.MaxIndex(left), term.MaxIndex(right)) + 1
	q.ordered = matches(base, term.Raise(left, by), right) && matches(base, term.Raise(right, by), left)
	head, args := term.Spine(left)
	q.head, q.args = head, len(args)
	return q, true
}

func matches(base kernel.Base, p, t api.Term) bool {
	_, e := pattern.MatchIn(base.Sign(), p, t)
	return e == api.OK
}

// mayMatch reports whether the left side may match a beta-normal term: heads of both, if none is an abstraction, must be the same.
func (q *equation) mayMatch(head api.Term, args int) bool {
	if head.Op == api.Abs || q.head.Op == api.Abs {
		return true
	}
	return q.args == args && q.head.Op == head.Op && q.head.Name == head.Name
}

// congruence is a theorem D1 ==> .. ==> Dm ==> c x1 .. xk == c y1 .. yk.
type congruence struct {
	derive.Rule
	name  string
	left  api.Term
	xs    []api.Term
	ys    []api.Term // of each x its y
	parts []part     // in the order of the premises
}

// part says how the argument of one index is simplified: with what is assumed.
type part struct {
	index   int
	assumed []api.Term
}

// newCongruence returns a theorem as a congruence rule; false, if it is none.
func newCongruence(_ kernel.Base, t kernel.Theorem) (congruence, bool) {
	premises, concl := term.Strip(t.Prop())
	left, right, ok := term.IsEq(concl)
	if !ok {
		return congruence{}, false
	}
	c, xs := term.Spine(left)
	d, ys := term.Spine(right)
	if c.Op != api.Const || !term.Equal(c, d) || len(xs) == 0 || len(xs) > MaxConds || len(xs) != len(ys) {
		return congruence{}, false
	}
	r := congruence{Rule: derive.NewRule(t), name: c.Name, left: left, xs: xs, ys: ys}
	if !r.differentVars() || !r.readParts(premises) {
		return congruence{}, false
	}
	for v := range variablesOf(t.Prop()) {
		if v.isType && !variablesOf(left)[v] {
			return congruence{}, false
		}
	}
	return r, true
}

func varOf(v api.Term) variable { return variable{false, v.Name, v.Num} }

// differentVars reports whether all xs, and the ys that are not their xs, are different Vars.
func (r *congruence) differentVars() bool {
	all := slices.Clone(r.xs)
	for i, y := range r.ys {
		if !term.Equal(y, r.xs[i]) {
			all = append(all, y)
		}
	}
	met := variables{}
	for _, v := range all {
		if v.Op != api.Var || met[varOf(v)] {
			return false
		}
		met[varOf(v)] = true
	}
	return true
}

// readParts reads the premises; false, if they are not as they have to be.
func (r *congruence) readParts(premises []api.Term) bool {
	may := variables{}
	wanted := 0
	for i, x := range r.xs {
		may[varOf(x)] = true
		if !term.Equal(x, r.ys[i]) {
			wanted++
		}
	}
	done := map[int]bool{}
	for _, p := range premises {
		assumed, concl := term.Strip(p)
		i := r.indexOf(concl)
		if i < 0 || done[i] {
			return false
		}
		for _, e := range assumed {
			if !isTruth(e) || !termVariables(e).within(may) {
				return false
			}
		}
		done[i] = true
		may[varOf(r.ys[i])] = true
		r.parts = append(r.parts, part{i, assumed})
	}
	return len(done) == wanted
}

// termVariables are the Vars of a term.
func termVariables(t api.Term) variables {
	v := variables{}
	for _, x := range term.Vars(t) {
		v[varOf(x)] = true
	}
	return v
}

// indexOf returns the index i of a conclusion xi == yi, where yi is not xi; otherwise -1.
func (r *congruence) indexOf(concl api.Term) int {
	a, b, ok := term.IsEq(concl)
	if !ok {
		return -1
	}
	for i, x := range r.xs {
		if term.Equal(a, x) && term.Equal(b, r.ys[i]) && !term.Equal(x, r.ys[i]) {
			return i
		}
	}
	return -1
}

// shape is what a proposition says to the simplifier.
type shape int

const (
	other     shape = iota
	meta            // a == b
	truth           // Truth of any other formula
	trivial         // Truth of True
	both            // And P Q
	hence           // Implies P Q
	every           // All f
	equality        // Equal a b
	negation        // Not P
	lastShape = negation
)

// shapeOf returns what a proposition says.
func shapeOf(t api.Term) shape {
	if _, _, ok := term.IsEq(t); ok {
		return meta
	}
	p, ok := hol.Untruth(t)
	if !ok {
		return other
	}
	f, l := term.Spine(p)
	if f.Op != api.Const {
		return truth
	}
	for s := trivial; s <= lastShape; s++ {
		if name, args := s.constant(); f.Name == name && len(l) == args {
			return s
		}
	}
	return truth
}

// constant returns the constant at the head of formulas of a shape, and the number of its arguments.
func (s shape) constant() (string, int) {
	switch s {
	case trivial:
		return "True", 0
	case both:
		return "And", 2
	case hence:
		return "Implies", 2
	case every:
		return "All", 1
	case equality:
		return "Equal", 2
	case negation:
		return "Not", 1
	}
	return "", -1
}

// elementType returns the type of the arguments of an Equal, or of the variable of an All, at the head of a formula.
func elementType(p api.Term) api.Type {
	f, _ := term.Spine(p)
	k := f.Type.Args[0]
	if f.Name == "All" {
		return k.Args[0]
	}
	return k
}
