package conv

import (
	"triforium/api"
	"triforium/derive"
	"triforium/pattern"
	"triforium/term"
)

// normFuel is how many steps lead to a normal form at most.
const normFuel = 1000

// worker counts the steps of a conversion, which all its parts share.
type worker struct {
	*derive.Prover
	rules       []rule
	steps, fuel int
}

// step counts a step, or leaves, if there is no fuel for it.
func (w *worker) step() {
	if w.steps >= w.fuel {
		panic(api.ErrFuel)
	}
	w.steps++
}

// stepping counts the step that gave an equation, if there is one.
func (w *worker) stepping(e derive.Equation, ok bool) (derive.Equation, bool) {
	if ok {
		w.step()
	}
	return e, ok
}

// conversion returns that a term is equal to another one; false, if it does not apply.
type conversion func(w *worker, t api.Term) (derive.Equation, bool)

// conversion returns the conversion that an expression means.
func (e Expr) conversion() conversion {
	kinds := [lastKind + 1]func(Expr) conversion{
		All: Expr.all, No: Expr.no, Beta: Expr.beta, Eta: Expr.eta, Rule: Expr.rule, Then: Expr.then, Else: Expr.otherwise, Repeat: Expr.repeat,
		Arg: Expr.arg, Fun: Expr.fun, Body: Expr.body, Sub: Expr.sub, Top: Expr.top, Bottom: Expr.bottom, Once: Expr.once, Norm: Expr.norm,
	}
	return kinds[e.Kind](e)
}

func (e Expr) all() conversion {
	return func(_ *worker, t api.Term) (derive.Equation, bool) { return derive.Same(t), true }
}

func (e Expr) no() conversion {
	return func(*worker, api.Term) (derive.Equation, bool) { return derive.Equation{}, false }
}

func (e Expr) beta() conversion {
	return func(w *worker, t api.Term) (derive.Equation, bool) {
		if t.Op != api.App || t.Kids[0].Op != api.Abs {
			return derive.Equation{}, false
		}
		return w.stepping(derive.Permitted(func() derive.Equation { return derive.Stating(derive.Must(w.Base.Beta(t))) }))
	}
}

func (e Expr) eta() conversion {
	return func(w *worker, t api.Term) (derive.Equation, bool) {
		if t.Op != api.Abs {
			return derive.Equation{}, false
		}
		return w.stepping(derive.Permitted(func() derive.Equation { return derive.Stating(derive.Must(w.Base.Eta(t))) }))
	}
}

func (e Expr) norm() conversion {
	return func(w *worker, t api.Term) (derive.Equation, bool) {
		if _, err := term.Norm(t, normFuel); err != api.OK {
			panic(err)
		}
		w.step()
		return w.Normal(t), true
	}
}

func (e Expr) rule() conversion {
	return func(w *worker, t api.Term) (derive.Equation, bool) { return w.rewritten(w.rules[e.Num], t) }
}

// rule is an equation, in the theory.
type rule struct {
	derive.Rule
	left, right api.Term
}

// rewritten rewrites a term by a rule, from the left to the right.
func (w *worker) rewritten(r rule, t api.Term) (derive.Equation, bool) {
	by := term.MaxIndex(t) + 1
	i, err := pattern.MatchIn(w.Base.Sign(), term.Raise(r.left, by), t)
	if err != api.OK {
		return derive.Equation{}, false
	}
	if _, err := term.Norm(term.Apply(i, term.Raise(r.right, by)), normFuel); err != api.OK {
		panic(err)
	}
	return w.stepping(derive.Permitted(func() derive.Equation {
		now := derive.Stating(r.Raised(by, i))
		e := derive.Joined(w.Alike(t, now.Left), now)
		return derive.Joined(e, w.Normal(now.Right))
	}))
}

func (e Expr) then() conversion {
	first, second := e.Kids[0].conversion(), e.Kids[1].conversion()
	return func(w *worker, t api.Term) (derive.Equation, bool) {
		a, ok := first(w, t)
		if !ok {
			return derive.Equation{}, false
		}
		b, ok := second(w, a.Right)
		if !ok {
			return derive.Equation{}, false
		}
		return joined(a, b)
	}
}

// joined is derive.Joined, if the kernel permits it.
func joined(a, b derive.Equation) (derive.Equation, bool) {
	return derive.Permitted(func() derive.Equation { return derive.Joined(a, b) })
}

func (e Expr) otherwise() conversion {
	first, second := e.Kids[0].conversion(), e.Kids[1].conversion()
	return func(w *worker, t api.Term) (derive.Equation, bool) {
		if a, ok := first(w, t); ok {
			return a, true
		}
		return second(w, t)
	}
}

func (e Expr) repeat() conversion { return repeated(e.Kids[0].conversion()) }

// repeated is Repeat of a conversion.
func repeated(c conversion) conversion {
	return func(w *worker, t api.Term) (derive.Equation, bool) {
		all := derive.Same(t)
		for {
			next, ok := c(w, all.Right)
			if !ok {
				return all, true
			}
			longer, ok := joined(all, next)
			if !ok {
				return all, true
			}
			all = longer
			if term.Equal(next.Left, next.Right) {
				return all, true
			}
		}
	}
}

func (e Expr) arg() conversion {
	c := e.Kids[0].conversion()
	return func(w *worker, t api.Term) (derive.Equation, bool) {
		if t.Op != api.App {
			return derive.Equation{}, false
		}
		a, ok := c(w, t.Kids[1])
		if !ok {
			return derive.Equation{}, false
		}
		return w.combined(derive.Same(t.Kids[0]), a)
	}
}

func (e Expr) fun() conversion {
	c := e.Kids[0].conversion()
	return func(w *worker, t api.Term) (derive.Equation, bool) {
		if t.Op != api.App {
			return derive.Equation{}, false
		}
		f, ok := c(w, t.Kids[0])
		if !ok {
			return derive.Equation{}, false
		}
		return w.combined(f, derive.Same(t.Kids[1]))
	}
}

// combined is derive.Applied, if the kernel permits it.
func (w *worker) combined(f, a derive.Equation) (derive.Equation, bool) {
	return derive.Permitted(func() derive.Equation { return w.Applied(f, a) })
}

func (e Expr) body() conversion { return inBody(e.Kids[0].conversion()) }

// inBody is Body of a conversion.
func inBody(c conversion) conversion {
	return func(w *worker, t api.Term) (derive.Equation, bool) {
		if t.Op != api.Abs {
			return derive.Equation{}, false
		}
		x := w.Fresh(t.Name, t.Type)
		defer w.Release(x)
		a, ok := c(w, term.Put(t.Kids[0], x))
		if !ok {
			return derive.Equation{}, false
		}
		return derive.Permitted(func() derive.Equation { return w.Under(t, x, a) })
	}
}

func (e Expr) sub() conversion { return parts(e.Kids[0].conversion()) }

// parts is Sub of a conversion.
func parts(c conversion) conversion {
	body := inBody(c)
	return func(w *worker, t api.Term) (derive.Equation, bool) {
		if t.Op != api.App {
			return body(w, t)
		}
		f, some := c(w, t.Kids[0])
		if !some {
			f = derive.Same(t.Kids[0])
		}
		a, other := c(w, t.Kids[1])
		if !other {
			a = derive.Same(t.Kids[1])
		}
		if !some && !other {
			return derive.Equation{}, false
		}
		return w.combined(f, a)
	}
}

func (e Expr) top() conversion {
	c := e.Kids[0].conversion()
	again := repeated(c)
	var top, below conversion
	top = func(w *worker, t api.Term) (derive.Equation, bool) {
		all, _ := again(w, t)
		inside, ok := below(w, all.Right)
		if !ok {
			return all, true
		}
		longer, ok := joined(all, inside)
		if !ok {
			return all, true
		}
		if term.Equal(inside.Left, inside.Right) {
			return longer, true
		}
		return w.further(longer, c, top), true
	}
	below = parts(top)
	return top
}

// further returns an equation, behind which a conversion, if it applies, and then another one, were applied.
func (w *worker) further(e derive.Equation, c, then conversion) derive.Equation {
	next, ok := c(w, e.Right)
	if !ok {
		return e
	}
	longer, ok := joined(e, next)
	if !ok {
		return e
	}
	if last, ok := then(w, longer.Right); ok {
		if all, ok := joined(longer, last); ok {
			return all
		}
	}
	return longer
}

func (e Expr) bottom() conversion {
	c := e.Kids[0].conversion()
	var bottom, below conversion
	bottom = func(w *worker, t api.Term) (derive.Equation, bool) {
		all, ok := below(w, t)
		if !ok {
			all = derive.Same(t)
		}
		return w.further(all, c, func(w *worker, u api.Term) (derive.Equation, bool) {
			if term.Equal(u, all.Right) {
				return derive.Equation{}, false
			}
			return bottom(w, u)
		}), true
	}
	below = parts(bottom)
	return bottom
}

func (e Expr) once() conversion {
	c := e.Kids[0].conversion()
	var once conversion
	once = func(w *worker, t api.Term) (derive.Equation, bool) {
		if a, ok := c(w, t); ok {
			return a, true
		}
		if t.Op != api.App {
			return inBody(once)(w, t)
		}
		if f, ok := once(w, t.Kids[0]); ok {
			return w.combined(f, derive.Same(t.Kids[1]))
		}
		a, ok := once(w, t.Kids[1])
		if !ok {
			return derive.Equation{}, false
		}
		return w.combined(derive.Same(t.Kids[0]), a)
	}
	return once
}
