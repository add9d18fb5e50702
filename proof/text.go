package proof

import (
	"strconv"
	"strings"

	"triforium/api"
	"triforium/sort"
	"triforium/term"
	"triforium/types"
)

// maxText is how many bytes the text of a proof has at most.
const maxText = 10 * api.MaxText

// Text returns the text of a proof; Read the proof with a text.
func Text(p api.Proof) (text string, err api.Errno) {
	if e := Check(p); e != api.OK {
		return "", e
	}
	defer func() {
		if r := recover(); r != nil {
			text, err = "", errorOf(r)
		}
	}()
	var w writer
	w.proof(&p)
	if w.full {
		return "", api.ErrLarge
	}
	return string(w.text), api.OK
}

// errorOf returns the code with which a function was left.
func errorOf(r any) api.Errno {
	if e, ok := r.(api.Errno); ok {
		return e
	}
	return api.ErrForm
}

// writer writes a text, and panics with an error of what has none. When the text is too large, it goes on without writing: errors behind that place are ahead of this one.
type writer struct {
	text []byte
	full bool
}

func (w *writer) add(l ...string) {
	for _, s := range l {
		w.full = w.full || len(w.text)+len(s) > maxText
		if !w.full {
			w.text = append(w.text, s...)
		}
	}
}

// proof writes the text of a proof of the right form.
func (w *writer) proof(p *api.Proof) {
	k := kinds[p.Op]
	checkNames(p, k)
	w.add("(", k.word)
	if k.name {
		w.add(" ", p.Name)
	}
	if k.term {
		w.add(" ")
		w.term(p.Term)
	}
	if k.inst {
		w.add(" ")
		w.inst(p.Inst)
	}
	if k.list {
		w.add(" ", strconv.Itoa(p.Num), " <", strings.Join(p.TypeNames, " "), " | ", strings.Join(p.TermNames, " "), ">")
	}
	for i := range p.Kids {
		w.add(" ")
		w.proof(&p.Kids[i])
	}
	w.add(")")
}

// checkNames panics, if a name of a node is none, or one of its numbers is below 0.
func checkNames(p *api.Proof, k kind) {
	ok := p.Num >= 0 && (!k.name || sort.IsName(p.Name))
	for _, l := range [][]string{p.TypeNames, p.TermNames} {
		for _, s := range l {
			ok = ok && sort.IsName(s)
		}
	}
	for _, b := range p.Inst.Types {
		ok = ok && sort.IsName(b.Name) && b.Index >= 0
	}
	for _, b := range p.Inst.Terms {
		ok = ok && sort.IsName(b.Name) && b.Index >= 0
	}
	if !ok {
		panic(api.ErrForm)
	}
}

func (w *writer) term(t api.Term) {
	s, e := term.Text(t)
	if e != api.OK {
		panic(e)
	}
	w.add("[", s, "]")
}

func (w *writer) typ(t api.Type) {
	s, e := types.Text(t)
	if e != api.OK {
		panic(e)
	}
	if len(s) > api.MaxText {
		panic(api.ErrLarge)
	}
	w.add("[", s, "]")
}

func (w *writer) inst(x api.Inst) {
	w.add("<")
	for i, b := range x.Types {
		w.bind(i, b.Name, b.Index)
		w.typ(b.To)
	}
	w.add(" | ")
	for i, b := range x.Terms {
		w.bind(i, b.Name, b.Index)
		w.term(b.To)
	}
	w.add(">")
}

// bind writes what stands ahead of the type or term of a bind, which is the one with a number in its list.
func (w *writer) bind(number int, name string, index int) {
	if number > 0 {
		w.add(" ")
	}
	w.add(name, ".", strconv.Itoa(index), "=")
}
