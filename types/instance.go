package types

import "triforium/api"

// Instance has binds that are applied to many types; it shares memory with them.
type Instance struct {
	known binds
	sizes map[key]size // of the types in known
}

// size is what Size returns.
type size struct {
	nodes, depth int
}

// NewInstance returns the instance of binds, of which the first one of a variable counts.
func NewInstance(l []api.TypeBind) Instance {
	x := Instance{newBinds(l), make(map[key]size, len(l))}
	for k, t := range x.known {
		n, d := Size(t)
		x.sizes[k] = size{n, d}
	}
	return x
}

// Apply is the function Apply with the binds.
func (x Instance) Apply(t api.Type) api.Type {
	return replace(t, x.known.copied)
}

// Size returns the size of what Apply would return: this may be very much too large to be built.
func (x Instance) Size(t api.Type) (nodes, depth int) {
	if t.Op == api.TVar {
		if s, ok := x.sizes[keyOf(t)]; ok {
			return s.nodes, s.depth
		}
	}
	nodes = 1
	for _, a := range t.Args {
		n, d := x.Size(a)
		nodes += n
		depth = max(depth, d)
	}
	return nodes, depth + 1
}

// Gives reports whether Apply would make a type of t that is equal to u.
func (x Instance) Gives(t, u api.Type) bool {
	if to, ok := x.known.find(t); ok {
		return equal(&to, &u)
	}
	a, b := t, u
	a.Args, b.Args = nil, nil
	if !equal(&a, &b) || len(t.Args) != len(u.Args) {
		return false
	}
	for i := range t.Args {
		if !x.Gives(t.Args[i], u.Args[i]) {
			return false
		}
	}
	return true
}
