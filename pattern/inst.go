package pattern

import (
	"triforium/api"
	"triforium/term"
	"triforium/types"
)

// Compose returns the instantiation that does what a does, and then what b does.
func Compose(a, b api.Inst) (api.Inst, api.Errno) {
	boundTypes, boundTerms := map[key]bool{}, map[key]bool{}
	if !different(a, boundTypes, boundTerms) || !different(b, map[key]bool{}, map[key]bool{}) {
		return api.Inst{}, api.ErrDuplicate
	}
	var out api.Inst
	x, y := types.NewInstance(b.Types), term.NewInstance(b)
	for _, t := range a.Types {
		t.To = x.Apply(t.To)
		out.Types = append(out.Types, t)
	}
	for _, t := range b.Types {
		if !boundTypes[keyOf(t.Name, t.Index)] {
			t.To = types.Copy(t.To)
			out.Types = append(out.Types, t)
		}
	}
	for _, t := range a.Terms {
		t.To = y.Apply(t.To)
		out.Terms = append(out.Terms, t)
	}
	for _, t := range b.Terms {
		if !boundTerms[keyOf(t.Name, t.Index)] {
			t.To = term.Copy(t.To)
			out.Terms = append(out.Terms, t)
		}
	}
	return out, api.OK
}

// different notes what an instantiation binds, and reports whether it binds nothing twice.
func different(i api.Inst, boundTypes, boundTerms map[key]bool) bool {
	for _, b := range i.Types {
		boundTypes[keyOf(b.Name, b.Index)] = true
	}
	for _, b := range i.Terms {
		boundTerms[keyOf(b.Name, b.Index)] = true
	}
	return len(boundTypes) == len(i.Types) && len(boundTerms) == len(i.Terms)
}

// solution is an instantiation that is held against pairs.
type solution struct {
	sign term.Signature
	inst api.Inst
	all  term.Instance
}

// fits reports whether the instantiation gives the variables of terms types and terms that are right for them.
func (v solution) fits(l []api.Term) bool {
	sorts := v.sign.Sorts()
	boundTypes := map[key]api.Type{}
	for _, b := range v.inst.Types {
		k := keyOf(b.Name, b.Index)
		if _, ok := boundTypes[k]; !ok {
			boundTypes[k] = b.To
		}
	}
	known := map[key]bool{} // of variables with types that were found right
	for _, t := range l {
		for _, x := range term.TypeVariables(t) {
			to, ok := boundTypes[keyOf(x.Name, x.Index)]
			if x.Op != api.TVar || !ok {
				continue
			}
			k := keyOf(x.Name, x.Index)
			if !known[k] && types.CheckIn(sorts, to) != api.OK {
				return false
			}
			known[k] = true
			if _, e := sorts.Normal(x.Sort); e != api.OK || !types.HasSortIn(sorts, to, x.Sort) {
				return false
			}
		}
	}
	return v.fitsTerms(l)
}

// fitsTerms reports whether each variable becomes a term of its type.
func (v solution) fitsTerms(l []api.Term) bool {
	of := map[key]api.Type{} // the types of the terms
	to := map[key]api.Term{}
	for _, b := range v.inst.Terms {
		k := keyOf(b.Name, b.Index)
		if _, ok := to[k]; !ok {
			to[k] = b.To
		}
	}
	x := types.NewInstance(v.inst.Types)
	for _, t := range l {
		for _, w := range term.Vars(t) {
			k := varKey(w)
			b, ok := to[k]
			if !ok {
				continue
			}
			if _, ok := of[k]; !ok {
				found, e := v.sign.Check(b)
				if e != api.OK {
					return false
				}
				of[k] = found
			}
			if !x.Gives(w.Type, of[k]) {
				return false
			}
		}
	}
	return true
}

// solves reports whether the instantiation makes the terms of pairs right and equal.
func (v solution) solves(l []Pair) bool {
	var now []Pair
	for _, p := range l {
		if !v.small(p.A) || !v.small(p.B) {
			return false
		}
		now = append(now, Pair{v.all.Apply(p.A), v.all.Apply(p.B)})
	}
	if CheckIn(v.sign, now) != api.OK {
		return false
	}
	for _, p := range now {
		a, e := term.Norm(p.A, normFuel)
		if e != api.OK {
			return false
		}
		b, e := term.Norm(p.B, normFuel)
		if e != api.OK || !term.Equal(term.Eta(a), term.Eta(b)) {
			return false
		}
	}
	return true
}

// small reports whether what a term becomes is not so large that it is no right term. It is asked ahead of making it, as it may be very much too large.
func (v solution) small(t api.Term) bool {
	nodes, depth := v.all.Size(t)
	return nodes <= api.MaxTerm && depth <= api.MaxDepth && v.all.TypesWithin(t, api.MaxType, api.MaxDepth)
}
