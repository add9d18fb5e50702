package sort

import (
	"slices"
	"strings"

	"triforium/api"
)

// maxGround is the greatest depth for Ground.
const maxGround = 5

// grounder searches types without variables. What it has found (or not) for a sort and a depth it keeps, as the same ones are asked for again and again.
type grounder struct {
	sign  Signature
	known map[groundKey]groundType
}

type groundKey struct {
	sort  string
	depth int
}

type groundType struct {
	t  api.Type
	ok bool
}

func newGrounder(g Signature) *grounder {
	return &grounder{g, map[groundKey]groundType{}}
}

// first returns the first type of at most a depth that has a normal sort.
func (r *grounder) first(s []string, depth int) (api.Type, bool) {
	if depth == 0 {
		return api.Type{}, false
	}
	key := groundKey{strings.Join(s, ","), depth}
	if x, ok := r.known[key]; ok {
		return x.t, x.ok
	}
	t, ok := r.search(s, depth)
	r.known[key] = groundType{t, ok}
	return t, ok
}

func (r *grounder) search(s []string, depth int) (api.Type, bool) {
	for _, d := range r.sign.types {
		sorts, ok := r.sign.Wanted(d.Name, s)
		if !ok {
			continue
		}
		if args, ok := r.firsts(sorts, depth-1); ok {
			return api.Type{Op: api.TCon, Name: d.Name, Args: args}, true
		}
	}
	return api.Type{}, false
}

// firsts returns the first type of each sort, if all of them have one.
func (r *grounder) firsts(sorts [][]string, depth int) ([]api.Type, bool) {
	var l []api.Type
	for _, s := range sorts {
		t, ok := r.first(s, depth)
		if !ok {
			return nil, false
		}
		l = append(l, t)
	}
	return l, true
}

// copyType returns a type without variables in new memory: what first returns shares its parts.
func copyType(t api.Type) api.Type {
	args := slices.Clone(t.Args)
	for i := range args {
		args[i] = copyType(args[i])
	}
	t.Args = args
	return t
}
