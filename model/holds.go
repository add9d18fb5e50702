package model

import (
	"iter"
	"slices"

	"triforium/api"
	"triforium/term"
	"triforium/types"
)

// fixedIndex is the Index of a fixed variable, or type variable, in an assignment.
const fixedIndex = -1

// indexOf returns the index in an assignment of a variable of a kind, for type variables as for others.
func indexOf(isFixed bool, index int) int {
	if isFixed {
		return fixedIndex
	}
	return index
}

// Evaluate returns the element that a term means.
func Evaluate(thy api.Theory, m Model, t api.Term, a Assign) (n int, err api.Errno) {
	defer func() {
		if r := recover(); r != nil {
			n, err = 0, errorOf(r)
		}
	}()
	w := newWorld(thy, m)
	_, e := w.sign.Check(t)
	must(e)
	w.closeTerm(t)
	env := w.assignedTypes(t, a)
	p := planner{world: w, variables: map[variable]operand{}}
	values := p.assignedValues(t, a, env)
	x := p.plan(&t, scope{env: env}, nil)
	want(!p.large, api.ErrLarge)
	return x.code(&frame{values, make([]int, p.slots)}), api.OK
}

// assignedTypes returns the types that the type variables of a term are given, or panics with ErrFree.
func (w *world) assignedTypes(t api.Term, a Assign) typeEnv {
	env := typeEnv{}
	for _, v := range term.TypeVariables(t) {
		index := indexOf(v.Op == api.TFree, v.Index)
		i := slices.IndexFunc(a.Types, func(b api.TypeBind) bool { return b.Name == v.Name && b.Index == index })
		want(i >= 0 && w.isClosed(a.Types[i].To), ErrFree)
		id := w.intern(a.Types[i].To, nil)
		want(w.hasSort(id, v.Sort), ErrFree)
		env[keyOf(v)] = id
	}
	return env
}

// isClosed reports whether a type is one of the theory without variables, whose type constructors have elements.
func (w *world) isClosed(t api.Type) bool {
	if types.CheckIn(w.sign.Sorts(), t) != api.OK {
		return false
	}
	for n := range types.Nodes(t) {
		if n.Op != api.TCon || !w.hasElements(n.Name) {
			return false
		}
	}
	return true
}

// assignedValues notes the variables of a term, and returns the elements that they are given, or panics with ErrFree.
func (p *planner) assignedValues(t api.Term, a Assign, env typeEnv) []int {
	var values []int
	for _, v := range slices.Concat(term.Frees(t), term.Vars(t)) {
		index := indexOf(v.Op == api.Free, v.Num)
		i := slices.IndexFunc(a.Values, func(x Value) bool { return x.Name == v.Name && x.Index == index })
		typ := p.intern(v.Type, env)
		want(i >= 0 && a.Values[i].Value >= 0 && uint64(a.Values[i].Value) < p.size(typ), ErrFree)
		p.variables[variable{v.Op, v.Name, v.Num}] = operand{len(values), typ}
		values = append(values, a.Values[i].Value)
	}
	return values
}

// Holds reports whether a proposition is true, whatever its variables mean, wherever the hypotheses are; if not, with the first assignment that shows it.
func Holds(thy api.Theory, m Model, hyps []api.Term, prop api.Term) (ok bool, a Assign, err api.Errno) {
	defer func() {
		if r := recover(); r != nil {
			ok, a, err = false, Assign{}, errorOf(r)
		}
	}()
	want(len(hyps) <= api.MaxHyps, api.ErrForm)
	ok, a = newWorld(thy, m).holds(hyps, prop)
	return ok, a, api.OK
}

// question asks whether the last one of some propositions is true, wherever the others are.
type question struct {
	props     []api.Term
	types     []api.Type // the type variables
	variables []api.Term // the Frees, and then the Vars
}

// holds is Holds of a right model; it panics with an error.
func (w *world) holds(hyps []api.Term, prop api.Term) (bool, Assign) {
	q := w.question(hyps, prop)
	choices := w.choices(q.types)
	counts := make([]int, len(choices))
	number := uint64(1)
	for i, l := range choices {
		counts[i] = len(l)
		number = times(number, uint64(len(l)))
	}
	want(number <= MaxWork, api.ErrFuel)
	p := planner{world: w}
	var cases []instance
	total := uint64(0)
	for list := range lists(counts) {
		x := p.instance(q, choices, list)
		cases = append(cases, x)
		total = sum(total, x.work)
		want(total <= MaxWork, api.ErrFuel)
	}
	want(!p.large, api.ErrLarge)
	for _, x := range cases {
		if values, found := x.counterexample(p.slots); found {
			return false, w.assignment(q, choices, x.list, values)
		}
	}
	return true, Assign{}
}

// question returns the question of propositions, or panics with its error.
func (w *world) question(hyps []api.Term, prop api.Term) question {
	q := question{props: append(slices.Clone(hyps), prop)}
	for _, t := range q.props {
		k, e := w.sign.Check(t)
		must(e)
		want(types.Equal(k, types.Prop()), api.ErrType)
	}
	checkTogether(q.props)
	for _, t := range q.props {
		w.closeTerm(t)
	}
	var vars []api.Term
	for _, t := range q.props {
		q.types = joined(q.types, term.TypeVariables(t), types.Equal)
		q.variables = joined(q.variables, term.Frees(t), term.Equal)
		vars = joined(vars, term.Vars(t), term.Equal)
	}
	q.variables = append(q.variables, vars...)
	return q
}

// joined returns a list with the elements of another one behind it that it has not.
func joined[T any](l, more []T, same func(a, b T) bool) []T {
	for _, x := range more {
		if !slices.ContainsFunc(l, func(y T) bool { return same(x, y) }) {
			l = append(l, x)
		}
	}
	return l
}

// checkTogether panics, if the sorts of type variables, or the types of variables, differ in terms.
func checkTogether(l []api.Term) {
	var sorts types.Sorts
	met := map[variable]api.Type{}
	same := true
	for _, t := range l {
		for n := range term.Nodes(t) {
			must(sorts.Add(n.Type))
			if n.Op != api.Free && n.Op != api.Var {
				continue
			}
			k := variable{n.Op, n.Name, n.Num}
			if old, ok := met[k]; ok {
				same = same && types.Equal(old, n.Type)
			} else {
				met[k] = n.Type
			}
		}
	}
	want(same, api.ErrType)
}

// choices returns for each type variable which types of Ground have its sort.
func (w *world) choices(l []api.Type) [][]int {
	out := make([][]int, len(l))
	for i, v := range l {
		for k, id := range w.ground {
			if w.hasSort(id, v.Sort) {
				out[i] = append(out[i], k)
			}
		}
	}
	return out
}

// lists yields the lists of numbers from 0 on, each one below a count, the first one of which changes slowest. A list that was yielded is changed for the next one.
func lists(counts []int) iter.Seq[[]int] {
	return func(yield func([]int) bool) {
		if slices.Contains(counts, 0) {
			return
		}
		l := make([]int, len(counts))
		for yield(l) {
			i := len(l) - 1
			for i >= 0 && l[i] == counts[i]-1 {
				l[i] = 0
				i--
			}
			if i < 0 {
				return
			}
			l[i]++
		}
	}
}

// instance is a question with types for its type variables.
type instance struct {
	list  []int // which choice of each one
	sizes []int // of the types of variables
	plans []plan
	work  uint64
}

// instance returns the instance for a list of choices.
func (p *planner) instance(q question, choices [][]int, list []int) instance {
	x := instance{list: slices.Clone(list)}
	env := typeEnv{}
	for i, v := range q.types {
		env[keyOf(v)] = p.ground[choices[i][list[i]]]
	}
	p.variables = map[variable]operand{}
	number := uint64(1)
	for i, v := range q.variables {
		typ := p.intern(v.Type, env)
		p.evaluated(typ)
		p.variables[variable{v.Op, v.Name, v.Num}] = operand{i, typ}
		x.sizes = append(x.sizes, p.counted(typ))
		number = times(number, uint64(p.counted(typ)))
	}
	for i := range q.props {
		a := p.plan(&q.props[i], scope{env: env}, nil)
		x.plans = append(x.plans, a)
		x.work += uint64(a.work)
	}
	x.work = times(x.work, number)
	return x
}

// counterexample returns the first elements for variables for which the last proposition is false, and the others are true.
func (x instance) counterexample(slots int) ([]int, bool) {
	f := &frame{slots: make([]int, slots)}
	for values := range lists(x.sizes) {
		f.variables = values
		if x.fails(f) {
			return values, true
		}
	}
	return nil, false
}

func (x instance) fails(f *frame) bool {
	last := len(x.plans) - 1
	for _, p := range x.plans[:last] {
		if p.code(f) == 0 {
			return false
		}
	}
	return x.plans[last].code(f) == 0
}

// assignment returns the assignment of types and elements, in new memory.
func (w *world) assignment(q question, choices [][]int, list, values []int) Assign {
	var a Assign
	for i, v := range q.types {
		to := types.Copy(w.m.Ground[choices[i][list[i]]])
		a.Types = append(a.Types, api.TypeBind{Name: v.Name, Index: indexOf(v.Op == api.TFree, v.Index), To: to})
	}
	for i, v := range q.variables {
		a.Values = append(a.Values, Value{v.Name, indexOf(v.Op == api.Free, v.Num), values[i]})
	}
	return a
}

// True reports whether all axioms hold; if not, with the name of the first one that does not.
func True(thy api.Theory, m Model) (ok bool, name string, err api.Errno) {
	defer func() {
		if r := recover(); r != nil {
			ok, name, err = false, "", errorOf(r)
		}
	}()
	name = newWorld(thy, m).failing()
	return name == "", name, api.OK
}

// failing returns the name of the first axiom that does not hold, or none; it panics with the error of one that is asked.
func (w *world) failing() string {
	for _, x := range w.thy.Axioms {
		if x.Kind == api.Defining {
			continue
		}
		if ok, _ := w.holds(nil, x.Prop); !ok {
			return x.Name
		}
	}
	return ""
}
