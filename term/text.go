package term

import (
	"strconv"

	"triforium/api"
	"triforium/types"
)

// Text returns the text of a term; Read the term with a text.
func Text(t api.Term) (text string, err api.Errno) {
	if e := formError(t); e != api.OK {
		return "", e
	}
	defer func() {
		if r := recover(); r != nil {
			text, err = "", errorOf(r)
		}
	}()
	var w writer
	w.term(t)
	return string(w.text), api.OK
}

// writer writes a text, and panics when it is too large.
type writer struct {
	text []byte
}

func (w *writer) add(l ...string) {
	for _, s := range l {
		w.text = append(w.text, s...)
	}
	if len(w.text) > api.MaxText {
		panic(api.ErrLarge)
	}
}

// term writes the text of a term of the right form.
func (w *writer) term(t api.Term) {
	switch t.Op {
	case api.Const:
		w.add(t.Name, ":")
		w.typ(t.Type)
	case api.Free:
		w.add("$", t.Name, ":")
		w.typ(t.Type)
	case api.Var:
		w.add("?", t.Name, ".", strconv.Itoa(t.Num), ":")
		w.typ(t.Type)
	case api.Bound:
		w.add("#", strconv.Itoa(t.Num))
	case api.Abs:
		w.add("(\\", t.Name, ":")
		w.typ(t.Type)
		w.add(" . ")
		w.term(t.Kids[0])
		w.add(")")
	case api.App:
		w.add("(")
		w.term(t.Kids[0])
		w.add(" ")
		w.term(t.Kids[1])
		w.add(")")
	}
}

// typ writes the text of a type of the right form.
func (w *writer) typ(t api.Type) {
	s, e := types.Text(t)
	if e != api.OK {
		panic(e)
	}
	w.add(s)
}

func Read(s string) (api.Term, api.Errno) {
	if len(s) > api.MaxText {
		return api.Term{}, api.ErrLarge
	}
	r := reader{types.Reader{Rest: s}}
	t, ok := r.term(1)
	if !ok || r.Rest != "" {
		return api.Term{}, api.ErrText
	}
	if e := formError(t); e != api.OK {
		return api.Term{}, e
	}
	return t, api.OK
}

// reader takes terms, of whatever form, from the front of a text.
type reader struct {
	types.Reader
}

// term takes a term that stands within depth-1 others.
func (r *reader) term(depth int) (api.Term, bool) {
	if depth > api.MaxDepth {
		return api.Term{}, false
	}
	switch {
	case r.Take("(\\"):
		return r.abs(depth)
	case r.Take("("):
		return r.app(depth)
	case r.Take("#"):
		n, ok := r.Number()
		return api.Term{Op: api.Bound, Num: n}, ok
	case r.Take("$"):
		return r.typed(api.Term{Op: api.Free, Name: r.Word()})
	case r.Take("?"):
		name, n, ok := r.Indexed()
		if !ok {
			return api.Term{}, false
		}
		return r.typed(api.Term{Op: api.Var, Name: name, Num: n})
	}
	return r.typed(api.Term{Op: api.Const, Name: r.Word()})
}

// typed takes the type of a term.
func (r *reader) typed(t api.Term) (api.Term, bool) {
	if !r.Take(":") {
		return api.Term{}, false
	}
	k, ok := r.Type()
	t.Type = k
	return t, ok
}

// abs takes an abstraction behind its bracket.
func (r *reader) abs(depth int) (api.Term, bool) {
	t, ok := r.typed(api.Term{Op: api.Abs, Name: r.Word()})
	if !ok || !r.Take(" . ") {
		return api.Term{}, false
	}
	body, ok := r.term(depth + 1)
	if !ok || !r.Take(")") {
		return api.Term{}, false
	}
	t.Kids = []api.Term{body}
	return t, true
}

// app takes an application behind its bracket.
func (r *reader) app(depth int) (api.Term, bool) {
	f, ok := r.term(depth + 1)
	if !ok || !r.Take(" ") {
		return api.Term{}, false
	}
	a, ok := r.term(depth + 1)
	if !ok || !r.Take(")") {
		return api.Term{}, false
	}
	return api.Term{Op: api.App, Kids: []api.Term{f, a}}, true
}
