package model

import (
	"math"
	"math/bits"
	"strconv"

	"triforium/api"
)

// atlas has types without variables: each one has a number, so that equal ones, however large they are, are compared at once, and have their parts in common.
type atlas struct {
	w     *world
	list  []place
	ids   map[string]int
	sizes map[string]uint64 // of type constructors with carriers, by their names and the sizes of their arguments
	sorts map[string]bool   // whether a type has a sort
}

// place is a type: its constructor, the numbers of its arguments, and its size (the greatest number, if it is greater).
type place struct {
	name string
	args []int
	size uint64
}

// typeKey is what a type variable is found by.
type typeKey struct {
	kind  int
	name  string
	index int
}

func keyOf(t api.Type) typeKey { return typeKey{t.Op, t.Name, t.Index} }

// typeEnv has the types for which type variables stand.
type typeEnv map[typeKey]int

func newAtlas(w *world) *atlas {
	return &atlas{w: w, ids: map[string]int{}, sizes: map[string]uint64{}, sorts: map[string]bool{}}
}

// size returns the size of a type.
func (a *atlas) size(id int) uint64 { return a.list[id].size }

// counted returns the size of a type as it counts as work.
func (a *atlas) counted(id int) int {
	return int(min(a.size(id), MaxSize+1))
}

// result returns the type of what functions of a type give, argument that of what they take.
func (a *atlas) result(id int) int { return a.list[id].args[1] }

func (a *atlas) argument(id int) int { return a.list[id].args[0] }

// intern returns the number of a type, whose type constructors have elements, and whose variables stand for types.
func (a *atlas) intern(t api.Type, env typeEnv) int {
	if t.Op != api.TCon {
		id, ok := env[keyOf(t)]
		want(ok, ErrFree)
		return id
	}
	var args []int
	for _, x := range t.Args {
		id := a.intern(x, env)
		args = append(args, id)
	}
	return a.applied(t.Name, args...)
}

// applied returns the number of a type constructor, applied to types.
func (a *atlas) applied(name string, args ...int) int {
	key := []byte(name)
	for _, x := range args {
		key = strconv.AppendInt(append(key, ' '), int64(x), 10)
	}
	id, ok := a.ids[string(key)]
	if !ok {
		sizes := make([]uint64, len(args))
		for i, x := range args {
			sizes[i] = a.size(x)
		}
		id = len(a.list)
		a.ids[string(key)] = id
		a.list = append(a.list, place{name, args, a.sizeOf(name, sizes)})
	}
	return id
}

// sizeOf returns the size of a type constructor, applied to types of some sizes.
func (a *atlas) sizeOf(name string, args []uint64) uint64 {
	switch name {
	case "prop", "bool":
		return 2
	case "fun":
		return power(args[1], args[0])
	}
	key := []byte(name)
	for _, n := range args {
		key = strconv.AppendUint(append(key, ' '), n, 10)
	}
	n, ok := a.sizes[string(key)]
	if !ok {
		for _, l := range a.fieldSizes(name, args) {
			n = sum(n, product(l))
		}
		a.sizes[string(key)] = n
	}
	return n
}

// fieldSizes returns the sizes of the fields of each case of a type constructor, applied to types of some sizes.
func (a *atlas) fieldSizes(name string, args []uint64) [][]uint64 {
	c := a.w.carriers[name]
	env := make(map[string]uint64, len(args))
	for i, p := range c.Params {
		env[p] = args[i]
	}
	out := make([][]uint64, len(c.Cases))
	for i, fields := range c.Cases {
		for _, t := range fields {
			n := a.fieldSize(t, env)
			out[i] = append(out[i], n)
		}
	}
	return out
}

// fieldSize returns the size of the type of a field, where its TFrees stand for types of some sizes.
func (a *atlas) fieldSize(t api.Type, env map[string]uint64) uint64 {
	if t.Op == api.TFree {
		return env[t.Name]
	}
	args := make([]uint64, len(t.Args))
	for i, x := range t.Args {
		args[i] = a.fieldSize(x, env)
	}
	return a.sizeOf(t.Name, args)
}

// times, sum and power are these of sizes: the greatest number, if it would be greater.
func times(a, b uint64) uint64 {
	if high, low := bits.Mul64(a, b); high == 0 {
		return low
	}
	return math.MaxUint64
}

func sum(a, b uint64) uint64 {
	if n, carry := bits.Add64(a, b, 0); carry == 0 {
		return n
	}
	return math.MaxUint64
}

func product(l []uint64) uint64 {
	n := uint64(1)
	for _, x := range l {
		n = times(n, x)
	}
	return n
}

func power(a, b uint64) uint64 {
	n := uint64(1)
	for ; a > 1 && b > 0 && n < math.MaxUint64; b-- {
		n = times(n, a)
	}
	return n
}

// layout says which elements a type has whose constructor has a carrier: those of each case stand from a number on.
type layout struct {
	starts []uint64
	sizes  [][]uint64
}

// layout returns the layout of a type with a carrier.
func (a *atlas) layout(id int) (layout, bool) {
	p := a.list[id]
	if _, ok := a.w.carriers[p.name]; !ok {
		return layout{}, false
	}
	args := make([]uint64, len(p.args))
	for i, x := range p.args {
		args[i] = a.size(x)
	}
	l := layout{sizes: a.fieldSizes(p.name, args)}
	start := uint64(0)
	for _, s := range l.sizes {
		l.starts = append(l.starts, start)
		start = sum(start, product(s))
	}
	return l, true
}

// taken returns the case of an element, and its fields.
func (l layout) taken(n int) (int, [maxFields]int) {
	k := len(l.starts) - 1
	for uint64(n) < l.starts[k] {
		k--
	}
	rest := uint64(n) - l.starts[k]
	var fields [maxFields]int
	for i := len(l.sizes[k]) - 1; i >= 0; i-- {
		fields[i] = int(rest % l.sizes[k][i])
		rest /= l.sizes[k][i]
	}
	return k, fields
}

// made returns the element of a case with some fields.
func (l layout) made(k int, fields []int) int {
	n := uint64(0)
	for i, x := range fields {
		n = n*l.sizes[k][i] + uint64(x)
	}
	return int(l.starts[k] + n)
}

// hasSort reports whether a type has a sort of the theory.
func (a *atlas) hasSort(id int, s []string) bool {
	if len(s) == 0 {
		return true
	}
	key := strconv.AppendInt(nil, int64(id), 10)
	for _, c := range s {
		key = append(append(key, ' '), c...)
	}
	has, ok := a.sorts[string(key)]
	if !ok {
		has = a.findSort(id, s)
		a.sorts[string(key)] = has
	}
	return has
}

func (a *atlas) findSort(id int, s []string) bool {
	p := a.list[id]
	sorts, ok := a.w.sign.Sorts().Wanted(p.name, s)
	if !ok {
		return false
	}
	for i, x := range p.args {
		if !a.hasSort(x, sorts[i]) {
			return false
		}
	}
	return true
}

// match reports whether a type is an instance of another one, and notes what its variables stand for.
func (a *atlas) match(pattern api.Type, id int, env typeEnv) bool {
	if pattern.Op != api.TCon {
		old, ok := env[keyOf(pattern)]
		env[keyOf(pattern)] = id
		return (!ok || old == id) && a.hasSort(id, pattern.Sort)
	}
	p := a.list[id]
	if p.name != pattern.Name {
		return false
	}
	for i, x := range p.args {
		if !a.match(pattern.Args[i], x, env) {
			return false
		}
	}
	return true
}
