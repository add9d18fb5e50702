package net

import (
	"cmp"
	"iter"
	"slices"

	"triforium/api"
)

// Match yields the values of the entries whose terms may match a term, in order.
func (n *Net[V]) Match(t api.Term) iter.Seq[V] {
	return found(n.own().root.under(&t, isAny))
}

// Unify yields the values of the entries whose terms may be unified with a term, in order.
func (n *Net[V]) Unify(t api.Term) iter.Seq[V] {
	return found(n.own().root.under(&t, isOpen))
}

// isOpen reports whether a term is not rigid.
func isOpen(t *api.Term) bool {
	text, _ := look(t)
	return text == star
}

// found yields the values of nodes, in the order of their numbers.
func found[V comparable](nodes iter.Seq[*node[V]]) iter.Seq[V] {
	var l []entry[V]
	for d := range nodes {
		l = append(l, d.entries...)
	}
	slices.SortFunc(l, func(a, b entry[V]) int { return cmp.Compare(a.number, b.number) })
	return func(yield func(V) bool) {
		for _, e := range l {
			if !yield(e.value) {
				return
			}
		}
	}
}

// goals are terms, one behind the other, whose keys lead on from a node.
type goals struct {
	t    *api.Term
	rest *goals
}

// under yields the nodes to which keys lead that go with a term; all keys go with a part of it for which whole is true.
func (d *node[V]) under(t *api.Term, whole func(*api.Term) bool) iter.Seq[*node[V]] {
	return func(yield func(*node[V]) bool) {
		d.walk(&goals{t, nil}, whole, yield)
	}
}

func (d *node[V]) walk(g *goals, whole func(*api.Term) bool, yield func(*node[V]) bool) bool {
	if g == nil {
		return yield(d)
	}
	on := func(d *node[V]) bool { return d.walk(g.rest, whole, yield) }
	if whole(g.t) {
		return d.skip(1, on)
	}
	if kid := d.kids[star]; kid != nil && !on(kid) {
		return false
	}
	text, args := look(g.t)
	if text == star {
		return true
	}
	kid := d.kids[text]
	if kid == nil {
		return true
	}
	rest := g.rest
	for i := len(args) - 1; i >= 0; i-- {
		rest = &goals{args[i], rest}
	}
	return kid.walk(rest, whole, yield)
}

// skip calls a function with the nodes to which the keys of n terms lead, whatever they are.
func (d *node[V]) skip(n int, on func(*node[V]) bool) bool {
	if n == 0 {
		return on(d)
	}
	for _, kid := range d.kids {
		if !kid.skip(n-1+kid.args, on) {
			return false
		}
	}
	return true
}
