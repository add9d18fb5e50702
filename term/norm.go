package term

import "triforium/api"

// Beta returns what a redex becomes in one step.
func Beta(t api.Term) (api.Term, bool) {
	if !isApp(t) || !isAbs(t.Kids[0]) {
		return api.Term{}, false
	}
	return Put(t.Kids[0].Kids[0], t.Kids[1]), true
}

// Norm returns the beta normal form; Eta the eta normal form of a term.
func Norm(t api.Term, fuel int) (api.Term, api.Errno) {
	return NormWithin(t, fuel, api.MaxTerm, api.MaxDepth)
}

// NormWithin is Norm, but no term on the way has more than some nodes, or is deeper than some number of them.
func NormWithin(t api.Term, fuel, nodes, depth int) (out api.Term, err api.Errno) {
	if e := sizeWithin(t, nodes, depth); e != api.OK {
		return api.Term{}, e
	}
	defer func() {
		if r := recover(); r != nil {
			out, err = api.Term{}, errorOf(r)
		}
	}()
	size, _ := Size(t)
	n := normalizer{fuel: fuel, nodes: size, maxNodes: nodes, maxDepth: depth}
	return Copy(n.normal(t, 0)), api.OK
}

// errorOf returns the code with which a function was left.
func errorOf(r any) api.Errno {
	if e, ok := r.(api.Errno); ok {
		return e
	}
	return api.ErrLarge
}

// normalizer makes the leftmost outermost steps of a term.
// It does not look for each one from the root on: what stands ahead of a step has no redex, and only the head of applications can make one of them.
type normalizer struct {
	fuel               int // how many steps may still be made
	nodes              int // how many nodes the whole term has now
	maxNodes, maxDepth int // the limits of the whole term
}

// normal returns the normal form of a part of the whole that stands within some nodes.
func (n *normalizer) normal(t api.Term, within int) api.Term {
	var apps []api.Term // those around the head, the outermost one first
	for {
		last := len(apps) - 1
		if isApp(t) {
			apps = append(apps, t)
			t = t.Kids[0]
		} else if last >= 0 && isAbs(t) {
			t = n.step(t.Kids[0], apps[last].Kids[1], within+last)
			apps = apps[:last]
		} else {
			break
		}
	}
	below := within + len(apps) + 1
	t = eachKid(t, func(k api.Term) api.Term { return n.normal(k, below) })
	for i := len(apps) - 1; i >= 0; i-- {
		a := n.normal(apps[i].Kids[1], within+i+1)
		app := apps[i]
		app.Kids = []api.Term{t, a}
		t = app
	}
	return t
}

// step makes a step of a redex within some nodes, or panics, if there is no fuel for it, or the whole becomes too large.
// The size is known ahead of making it, as it may be very much too large.
func (n *normalizer) step(body, a api.Term, within int) api.Term {
	if n.fuel <= 0 {
		panic(api.ErrFuel)
	}
	n.fuel--
	before, _ := Size(body)
	size, _ := Size(a)
	n.nodes += sizeOfPut(body, 0, size) - before - size - 2
	if n.nodes > n.maxNodes {
		panic(api.ErrCount)
	}
	out := put(body, a)
	if _, d := Size(out); within+d > n.maxDepth {
		panic(api.ErrDepth)
	}
	return out
}

// sizeOfPut returns the number of nodes of Put of a body and a term of a size.
func sizeOfPut(t api.Term, around, size int) int {
	if t.Op == api.Bound && t.Num == around {
		return size
	}
	if t.Op == api.Abs {
		around++
	}
	n := 1
	for _, k := range t.Kids {
		n += sizeOfPut(k, around, size)
	}
	return n
}

func Eta(t api.Term) api.Term {
	return Copy(eta(t))
}

func eta(t api.Term) api.Term {
	t = eachKid(t, eta)
	if !isAbs(t) || !isApp(t.Kids[0]) {
		return t
	}
	f, a := t.Kids[0].Kids[0], t.Kids[0].Kids[1]
	if a.Op != api.Bound || a.Num != 0 || hasBound(f, 0) {
		return t
	}
	return lift(f, -1)
}

// hasBound reports whether a term has a Bound that means the innermost Abs around the whole of it.
func hasBound(t api.Term, around int) bool {
	if t.Op == api.Bound && t.Num == around {
		return true
	}
	if t.Op == api.Abs {
		around++
	}
	for _, k := range t.Kids {
		if hasBound(k, around) {
			return true
		}
	}
	return false
}
