package proof

import (
	"strconv"
	"strings"

	"triforium/api"
	"triforium/sort"
	"triforium/term"
	"triforium/types"
)

func Read(s string) (p api.Proof, err api.Errno) {
	if len(s) > maxText {
		return api.Proof{}, api.ErrLarge
	}
	defer func() {
		if r := recover(); r != nil {
			p, err = api.Proof{}, api.ErrText
		}
	}()
	r := reader{s}
	p = r.proof(1)
	if r.rest != "" {
		r.fail()
	}
	return p, api.OK
}

// reader takes parts of a text from its front; it is left by a panic, if they are not there.
type reader struct {
	rest string
}

func (r *reader) fail() { panic(api.ErrText) }

// has takes a text, if it stands there.
func (r *reader) has(s string) bool {
	rest, ok := strings.CutPrefix(r.rest, s)
	r.rest = rest
	return ok
}

func (r *reader) take(s string) {
	if !r.has(s) {
		r.fail()
	}
}

// word takes as many bytes as can stand in a name.
func (r *reader) word() string {
	n := 0
	for n < len(r.rest) && sort.InName(r.rest[n]) {
		n++
	}
	w := r.rest[:n]
	r.rest = r.rest[n:]
	return w
}

func (r *reader) name() string { return r.isName(r.word()) }

func (r *reader) isName(s string) string {
	if !sort.IsName(s) {
		r.fail()
	}
	return s
}

// number returns the number that is written so.
func (r *reader) number(s string) int {
	n, e := strconv.Atoi(s)
	if e != nil || n < 0 || strconv.Itoa(n) != s {
		r.fail()
	}
	return n
}

// proof takes a proof that stands within depth-1 others.
func (r *reader) proof(depth int) api.Proof {
	if depth > MaxNest {
		r.fail()
	}
	r.take("(")
	op := r.op()
	k := kinds[op]
	p := api.Proof{Op: op}
	if k.name {
		r.take(" ")
		p.Name = r.name()
	}
	if k.term {
		r.take(" ")
		p.Term = r.term()
	}
	if k.inst {
		r.take(" <")
		p.Inst = r.inst()
	}
	if k.list {
		r.take(" ")
		p.Num = r.number(r.word())
		r.take(" <")
		p.TypeNames = list(r, " | ", r.name)
		p.TermNames = list(r, ">", r.name)
	}
	for range k.kids {
		r.take(" ")
		p.Kids = append(p.Kids, r.proof(depth+1))
	}
	r.take(")")
	return p
}

// op takes the word of a kind.
func (r *reader) op() int {
	w := r.word()
	for i, k := range kinds {
		if isKind(i) && k.word == w {
			return i
		}
	}
	r.fail()
	return 0
}

// quoted takes what stands in brackets: texts of types and terms have none.
func (r *reader) quoted() string {
	r.take("[")
	s, rest, ok := strings.Cut(r.rest, "]")
	if !ok {
		r.fail()
	}
	r.rest = rest
	return s
}

func (r *reader) term() api.Term {
	t, e := term.Read(r.quoted())
	if e != api.OK {
		r.fail()
	}
	return t
}

func (r *reader) typ() api.Type {
	t, e := types.Read(r.quoted())
	if e != api.OK {
		r.fail()
	}
	return t
}

// list takes what a function takes, with spaces between, perhaps nothing, up to an end.
func list[T any](r *reader, end string, one func() T) []T {
	var l []T
	for !r.has(end) {
		if len(l) > 0 {
			r.take(" ")
		}
		x := one()
		l = append(l, x)
	}
	return l
}

// inst takes an Inst behind its bracket.
func (r *reader) inst() api.Inst {
	var x api.Inst
	x.Types = list(r, " | ", func() api.TypeBind {
		name, index := r.bind()
		return api.TypeBind{Name: name, Index: index, To: r.typ()}
	})
	x.Terms = list(r, ">", func() api.TermBind {
		name, index := r.bind()
		return api.TermBind{Name: name, Index: index, To: r.term()}
	})
	return x
}

// bind takes what stands ahead of the type or term of a bind. Names may have points: the last one is ahead of the index.
func (r *reader) bind() (string, int) {
	w := r.word()
	i := strings.LastIndexByte(w, '.')
	if i < 0 {
		r.fail()
	}
	r.take("=")
	return r.isName(w[:i]), r.number(w[i+1:])
}
