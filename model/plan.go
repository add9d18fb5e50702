package model

import "triforium/api"

// A term is evaluated by a plan: a closure, in which types are sizes, and defined constants are what they are defined by.

// frame has the elements that variables mean, and those of bound variables and arguments, in slots.
type frame struct {
	variables []int
	slots     []int
}

// code gives the element that a term means.
type code func(*frame) int

// plan is how a term is evaluated.
type plan struct {
	code code
	typ  int
	work int
}

// operand is an argument that stands in a slot.
type operand struct {
	slot, typ int
}

// scope is what is around a part of a term: its bound variables, the outermost one first; the next slot that is not used; and the types for which type variables stand.
type scope struct {
	bound []operand
	next  int
	env   typeEnv
}

// variable is what a Free or a Var is found by.
type variable struct {
	kind  int
	name  string
	index int
}

// planner makes plans of terms that are right, whose types have elements, and whose constants have meanings.
type planner struct {
	*world
	variables map[variable]operand
	slots     int  // how many slots plans use
	steps     int  // how many plans were made: each one is work
	large     bool // whether something that is evaluated is of a type that is too large
}

// plus returns the sum of work, or panics, if this is too much.
func plus(a, b int) int {
	want(a+b <= MaxWork, api.ErrFuel)
	return a + b
}

// evaluated notes that something of a type is evaluated.
func (p *planner) evaluated(typ int) {
	p.large = p.large || p.size(typ) > MaxSize
}

// reserve returns the next slot of a scope, and uses it.
func (p *planner) reserve(s *scope) int {
	n := s.next
	s.next++
	p.slots = max(p.slots, s.next)
	return n
}

// plan returns the plan of a term that is applied to operands: its head with its own arguments ahead of these.
// Arguments are evaluated into slots first, so that whatever takes them takes elements.
func (p *planner) plan(t *api.Term, s scope, behind []operand) plan {
	p.steps++
	want(p.steps <= MaxWork, api.ErrFuel)
	head, args := spine(t)
	work, first := 1, s.next
	var own []operand
	var codes []code
	for _, a := range args {
		x := p.plan(a, s, nil)
		own = append(own, operand{p.reserve(&s), x.typ})
		codes = append(codes, x.code)
		work = plus(work, x.work)
	}
	h := p.head(head, s, append(own, behind...))
	if len(behind) == 0 {
		p.evaluated(h.typ)
	}
	h.work = plus(work, h.work)
	if len(codes) == 0 {
		return h
	}
	whole := h
	whole.code = func(f *frame) int {
		for i, c := range codes {
			f.slots[first+i] = c(f)
		}
		return h.code(f)
	}
	return whole
}

// spine returns the head of applications and its arguments.
func spine(t *api.Term) (*api.Term, []*api.Term) {
	n := 0
	for x := t; x.Op == api.App; x = &x.Kids[0] {
		n++
	}
	args := make([]*api.Term, n)
	for ; t.Op == api.App; t = &t.Kids[0] {
		n--
		args[n] = &t.Kids[1]
	}
	return t, args
}

// head returns the plan of a head that is applied to operands.
func (p *planner) head(t *api.Term, s scope, l []operand) plan {
	switch t.Op {
	case api.Const:
		return p.constant(t.Name, p.intern(t.Type, s.env), s, l)
	case api.Bound:
		x := s.bound[len(s.bound)-1-t.Num]
		p.evaluated(x.typ)
		return p.calls(plan{code: func(f *frame) int { return f.slots[x.slot] }, typ: x.typ}, l)
	case api.Abs:
		if len(l) == 0 {
			return p.table(t, s)
		}
		for t.Op == api.Abs && len(l) > 0 {
			s.bound = append(s.bound[:len(s.bound):len(s.bound)], l[0])
			t, l = &t.Kids[0], l[1:]
		}
		return p.plan(t, s, l)
	}
	x := p.variables[variable{t.Op, t.Name, t.Num}]
	p.evaluated(x.typ)
	return p.calls(plan{code: func(f *frame) int { return f.variables[x.slot] }, typ: x.typ}, l)
}

// calls returns the plan of a function, as an element, that is applied to operands.
func (p *planner) calls(f plan, l []operand) plan {
	for _, x := range l {
		function := f.code
		f.typ = p.result(f.typ)
		size := p.size(f.typ)
		f.code = func(f *frame) int { return call(function(f), f.slots[x.slot], size) }
	}
	return f
}

// table returns the plan of an abstraction that is no head: its body is evaluated for each element.
func (p *planner) table(t *api.Term, s scope) plan {
	from := p.intern(t.Type, s.env)
	slot := p.reserve(&s)
	s.bound = append(s.bound[:len(s.bound):len(s.bound)], operand{slot, from})
	body := p.plan(&t.Kids[0], s, nil)
	count, size := p.size(from), p.size(body.typ)
	c := func(f *frame) int {
		return tabulated(count, size, func(x int) int {
			f.slots[slot] = x
			return body.code(f)
		})
	}
	work := p.counted(from) * body.work
	return plan{c, p.applied("fun", from, body.typ), plus(work, 0)}
}

// tabulated returns the function that gives for each of some elements what f says, of a type of a size.
func tabulated(count, size uint64, f func(int) int) int {
	if size == 1 { // there is one function alone, and there may be very many arguments
		return 0
	}
	n, power := uint64(0), uint64(1)
	for x := range count {
		n += uint64(f(int(x))) * power
		power *= size
	}
	return int(n)
}

// constant returns the plan of a constant at a type that is applied to operands.
func (p *planner) constant(name string, typ int, s scope, l []operand) plan {
	if takes, ok := p.known[name]; ok {
		return p.applies(takes, knownMeaning(name, p.ranges(name, typ)), typ, l)
	}
	for _, d := range p.definitions[name] {
		env := typeEnv{}
		if p.match(d.at, typ, env) {
			return p.plan(&d.right, scope{next: s.next, env: env}, l)
		}
	}
	takes, meaning := 0, func([]int) int { return 0 }
	if m, ok := p.meanings[name]; ok {
		takes, meaning = p.meaning(m, typ)
	}
	return p.applies(takes, meaning, typ, l)
}

// ranges returns the size of the type over which a quantifier ranges, 0 of other constants.
func (p *planner) ranges(name string, typ int) uint64 {
	if name == "all" || name == "All" {
		return p.size(p.argument(p.argument(typ)))
	}
	return 0
}

// meaning returns how many arguments a constant at a type takes to which the model gives a meaning, and what it gives for them.
func (p *planner) meaning(m Meaning, typ int) (int, func([]int) int) {
	switch m.How {
	case Maker:
		return p.maker(m, typ)
	case Chooser:
		return p.chooser(m, typ)
	case Part:
		l, _ := p.layout(p.argument(typ))
		return 1, func(args []int) int {
			k, fields := l.taken(args[0])
			if k != m.Case {
				return 0
			}
			return fields[m.Field]
		}
	}
	return 0, func([]int) int { return m.Value }
}

func (p *planner) maker(m Meaning, typ int) (int, func([]int) int) {
	takes := len(p.carriers[m.Type].Cases[m.Case])
	for range takes {
		typ = p.result(typ)
	}
	l, _ := p.layout(typ)
	return takes, func(args []int) int { return l.made(m.Case, args) }
}

// chooser applies the function for the case of an element, which is the last argument, to its fields.
func (p *planner) chooser(m Meaning, typ int) (int, func([]int) int) {
	cases := p.carriers[m.Type].Cases
	results := make([][]uint64, len(cases)) // the sizes of what is left of the function for a case behind each field
	for i, fields := range cases {
		f := p.argument(typ)
		typ = p.result(typ)
		for range fields {
			f = p.result(f)
			results[i] = append(results[i], p.size(f))
		}
	}
	l, _ := p.layout(p.argument(typ))
	return len(cases) + 1, func(args []int) int {
		k, fields := l.taken(args[len(cases)])
		v := args[k]
		for i, size := range results[k] {
			v = call(v, fields[i], size)
		}
		return v
	}
}

// applies returns the plan of a constant at a type, that takes some arguments, and is applied to operands, perhaps more of them, or less.
func (p *planner) applies(takes int, meaning func([]int) int, typ int, l []operand) plan {
	have := min(takes, len(l))
	for range have {
		typ = p.result(typ)
	}
	counts, sizes, work := p.missing(takes-have, typ)
	slots := l[:have]
	c := func(f *frame) int {
		args := make([]int, takes)
		for i, x := range slots {
			args[i] = f.slots[x.slot]
		}
		return completed(args, have, counts, sizes, meaning)
	}
	return p.calls(plan{c, typ, work}, l[have:])
}

// missing returns the sizes of the types of arguments that are missing, and of what the function gives behind each of them, and the work of making it a table.
func (p *planner) missing(n int, typ int) (counts, sizes []uint64, work int) {
	if n == 0 {
		return nil, nil, 0
	}
	work = 1
	for range n {
		counts = append(counts, p.size(p.argument(typ)))
		work = plus(work*p.counted(p.argument(typ)), 0)
		typ = p.result(typ)
		sizes = append(sizes, p.size(typ))
	}
	return counts, sizes, work
}

// completed returns what a constant gives for arguments, of which some are there: a table, if others are missing.
func completed(args []int, have int, counts, sizes []uint64, meaning func([]int) int) int {
	if have == len(args) {
		return meaning(args)
	}
	return tabulated(counts[0], sizes[0], func(x int) int {
		args[have] = x
		return completed(args, have+1, counts[1:], sizes[1:], meaning)
	})
}
