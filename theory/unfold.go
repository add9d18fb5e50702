package theory

import (
	"triforium/api"
	"triforium/term"
	"triforium/types"
)

// Unfolded returns a term in which all defined constants are replaced by what they are.
func Unfolded(t api.Theory, x api.Term) (out api.Term, err api.Errno) {
	defer func() {
		if r := recover(); r != nil {
			out, err = api.Term{}, errorOf(r)
		}
	}()
	g, l := checked(t)
	_, e := g.Check(x)
	must(e)
	size, _ := term.Size(x)
	u := unfolder{sign: g, definitions: l, at: places(l, definitionKey), nodes: size}
	return term.Copy(u.unfold(x, 0)), api.OK
}

// unfolder replaces the defined constants of a term.
// It needs not look for the first one from the root on each time: a constant that is replaced changes nothing ahead of it.
type unfolder struct {
	sign        term.Signature
	definitions []definition
	at          map[string][]int // where the definitions of a constant are
	nodes       int              // how many nodes the whole term has now
}

// unfold returns what a part of the whole becomes that stands within some nodes.
func (u *unfolder) unfold(x api.Term, within int) api.Term {
	for {
		d, l, ok := u.fitting(x)
		if !ok {
			break
		}
		x = u.replaced(d, l, within)
	}
	x.Kids = copies(x.Kids, func(k api.Term) api.Term { return u.unfold(k, within+1) })
	return x
}

// fitting returns the definition that fits a constant, with what its type variables stand for.
func (u *unfolder) fitting(x api.Term) (definition, []api.TypeBind, bool) {
	if x.Op != api.Const {
		return definition{}, nil, false
	}
	for _, k := range u.at[x.Name] {
		d := u.definitions[k]
		if l, e := types.MatchIn(u.sign.Sorts(), d.left.Type, x.Type, nil); e == api.OK {
			return d, l, true
		}
	}
	return definition{}, nil, false
}

// replaced returns the right side of a definition with types for its variables, for a constant within some nodes, or panics, if something becomes too large.
// All sizes are known ahead of making it: types may double with each constant that is replaced.
func (u *unfolder) replaced(d definition, l []api.TypeBind, within int) api.Term {
	size, depth := term.Size(d.right)
	u.nodes += size - 1
	if u.nodes > api.MaxTerm {
		panic(api.ErrCount)
	}
	if within+depth > api.MaxDepth {
		panic(api.ErrDepth)
	}
	instance := types.NewInstance(l)
	for n := range term.Nodes(d.right) {
		size, depth := instance.Size(n.Type)
		if size > api.MaxType {
			panic(api.ErrCount)
		}
		if depth > api.MaxDepth {
			panic(api.ErrDepth)
		}
	}
	return term.Apply(api.Inst{Types: l}, d.right)
}
