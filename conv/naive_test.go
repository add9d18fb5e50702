package conv

import (
	"triforium/api"
	"triforium/kernel"
	"triforium/pattern"
	"triforium/term"
)

// The kinds in the words of the document, of terms alone: rules without hypotheses.

type plain struct {
	thy         api.Theory
	rules       []kernel.Theorem
	steps, fuel int
}

func naive(thy api.Theory, rules []kernel.Theorem, e Expr, t api.Term, fuel int) (out api.Term, code api.Errno) {
	defer func() {
		if r := recover(); r != nil {
			out, code = api.Term{}, r.(api.Errno)
		}
	}()
	p := &plain{thy: thy, rules: rules, fuel: fuel}
	u, ok := p.do(e, t)
	if !ok {
		return api.Term{}, api.ErrFail
	}
	return u, api.OK
}

func (p *plain) step() {
	if p.steps == p.fuel {
		panic(api.ErrFuel)
	}
	p.steps++
}

func (p *plain) do(e Expr, t api.Term) (api.Term, bool) {
	switch e.Kind {
	case All:
		return t, true
	case Beta:
		u, ok := term.Beta(t)
		if ok {
			p.step()
		}
		return u, ok
	case Eta:
		if t.Op != api.Abs || t.Kids[0].Op != api.App || t.Kids[0].Kids[1].Op != api.Bound {
			return t, false
		}
		x := api.Term{Op: api.Free, Name: "new", Type: t.Type}
		f := term.Put(t.Kids[0].Kids[0], x)
		for _, y := range term.Frees(f) {
			if y.Name == "new" {
				return t, false
			}
		}
		p.step()
		return f, true
	case Rule:
		return p.rule(p.rules[e.Num], t)
	case Norm:
		n, err := term.Norm(t, 1000)
		if err != api.OK {
			panic(err)
		}
		p.step()
		return n, true
	case Then:
		u, ok := p.do(e.Kids[0], t)
		if !ok {
			return t, false
		}
		return p.do(e.Kids[1], u)
	case Else:
		if u, ok := p.do(e.Kids[0], t); ok {
			return u, true
		}
		return p.do(e.Kids[1], t)
	case Repeat:
		for {
			u, ok := p.do(e.Kids[0], t)
			if !ok || term.Equal(t, u) {
				return t, true
			}
			t = u
		}
	}
	return p.parts(e, t)
}

func (p *plain) rule(th kernel.Theorem, t api.Term) (api.Term, bool) {
	l, r, _ := term.IsEq(th.Prop())
	by := max(term.MaxIndex(t)+1, 0)
	i, e := pattern.Match(p.thy, term.Raise(l, by), t)
	if e != api.OK {
		return t, false
	}
	n, e := term.Norm(term.Apply(i, term.Raise(r, by)), 1000)
	if e != api.OK {
		panic(e)
	}
	p.step()
	return n, true
}

// inside applies an expression to the direct parts of a term, from one on, as far as it applies; at most so many.
func (p *plain) inside(e Expr, t api.Term, from, most int) (api.Term, int) {
	n := 0
	switch t.Op {
	case api.App:
		kids := []api.Term{t.Kids[0], t.Kids[1]}
		for i := from; i < 2 && n < most; i++ {
			if u, ok := p.do(e, kids[i]); ok {
				kids[i] = u
				n++
			}
		}
		t = api.Term{Op: api.App, Kids: kids}
	case api.Abs:
		x := api.Term{Op: api.Free, Name: "new", Type: t.Type}
		for _, y := range term.Frees(t) {
			if y.Name == x.Name {
				x.Name += "r"
			}
		}
		if u, ok := p.do(e, term.Put(t.Kids[0], x)); ok {
			t = api.Term{Op: api.Abs, Name: t.Name, Type: t.Type, Kids: []api.Term{term.Bind(x, u)}}
			n++
		}
	}
	return t, n
}

func (p *plain) parts(e Expr, t api.Term) (api.Term, bool) {
	switch e.Kind {
	case Arg:
		if t.Op != api.App {
			return t, false
		}
		u, n := p.inside(e.Kids[0], t, 1, 1)
		return u, n > 0
	case Fun:
		if t.Op != api.App {
			return t, false
		}
		f, ok := p.do(e.Kids[0], t.Kids[0])
		return api.Term{Op: api.App, Kids: []api.Term{f, t.Kids[1]}}, ok
	case Body:
		if t.Op != api.Abs {
			return t, false
		}
		u, n := p.inside(e.Kids[0], t, 0, 1)
		return u, n > 0
	case Sub:
		u, n := p.inside(e.Kids[0], t, 0, 2)
		return u, n > 0
	case Once:
		if u, ok := p.do(e.Kids[0], t); ok {
			return u, true
		}
		u, n := p.inside(e, t, 0, 1)
		return u, n > 0
	case Top:
		u, _ := p.do(expr(Repeat, e.Kids[0]), t)
		v, _ := p.inside(e, u, 0, 2)
		if term.Equal(u, v) {
			return v, true
		}
		w, ok := p.do(e.Kids[0], v)
		if !ok {
			return v, true
		}
		return p.do(e, w)
	case Bottom:
		u, _ := p.inside(e, t, 0, 2)
		v, ok := p.do(e.Kids[0], u)
		if !ok || term.Equal(u, v) {
			return u, true
		}
		return p.do(e, v)
	}
	return t, false
}
