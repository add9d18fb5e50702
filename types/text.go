package types

import (
	"strconv"
	"strings"

	"triforium/api"
	"triforium/sort"
)

// Text returns the text of a type; Read the type with a text.
func Text(t api.Type) (string, api.Errno) {
	if e := Form(t); e != api.OK {
		return "", e
	}
	var b strings.Builder
	write(&b, t)
	return b.String(), api.OK
}

// write writes the text of a type of the right form.
func write(b *strings.Builder, t api.Type) {
	switch t.Op {
	case api.TFree:
		b.WriteString("'" + t.Name)
	case api.TVar:
		b.WriteString("?" + t.Name + "." + strconv.Itoa(t.Index))
	default:
		b.WriteString(t.Name)
	}
	if len(t.Sort) > 0 {
		b.WriteString("{" + strings.Join(t.Sort, ",") + "}")
	}
	for i, a := range t.Args {
		if i == 0 {
			b.WriteString("(")
		} else {
			b.WriteString(", ")
		}
		write(b, a)
	}
	if len(t.Args) > 0 {
		b.WriteString(")")
	}
}

func Read(s string) (api.Type, api.Errno) {
	if len(s) > api.MaxText {
		return api.Type{}, api.ErrLarge
	}
	r := Reader{s}
	t, ok := r.Type()
	if !ok || r.Rest != "" {
		return api.Type{}, api.ErrText
	}
	if e := Form(t); e != api.OK {
		return api.Type{}, e
	}
	return t, api.OK
}

// Reader takes parts of texts, also of those of terms, from the front of a text. Rest is what is left; behind a part that is not there it may be anything.
type Reader struct {
	Rest string
}

// Take takes a text from the front, if it stands there.
func (r *Reader) Take(s string) bool {
	rest, ok := strings.CutPrefix(r.Rest, s)
	r.Rest = rest
	return ok
}

// Word takes as many bytes from the front as can stand in a name, perhaps none.
func (r *Reader) Word() string {
	n := 0
	for n < len(r.Rest) && sort.InName(r.Rest[n]) {
		n++
	}
	word := r.Rest[:n]
	r.Rest = r.Rest[n:]
	return word
}

// Number takes a number of 1 to 7 digits, without a needless 0 ahead.
func (r *Reader) Number() (int, bool) {
	return number(r.Word())
}

func number(s string) (int, bool) {
	if len(s) == 0 || len(s) > 7 || s[0] == '0' && len(s) > 1 {
		return 0, false
	}
	n := 0
	for i := range len(s) {
		if s[i] < '0' || s[i] > '9' {
			return 0, false
		}
		n = 10*n + int(s[i]-'0')
	}
	return n, true
}

// Indexed takes the name and the index of a schematic variable: names may have points, so the last one is ahead of the index.
func (r *Reader) Indexed() (name string, index int, ok bool) {
	word := r.Word()
	i := strings.LastIndexByte(word, '.')
	if i < 0 {
		return "", 0, false
	}
	index, ok = number(word[i+1:])
	if !ok {
		return "", 0, false
	}
	return word[:i], index, true
}

// Type takes a type, of whatever form.
// An empty name stands for a constructor only within a type: nothing at all is no type.
func (r *Reader) Type() (api.Type, bool) {
	before := len(r.Rest)
	t, ok := r.within(1)
	if !ok || len(r.Rest) == before {
		return api.Type{}, false
	}
	return t, true
}

// within takes a type that stands within depth-1 others.
func (r *Reader) within(depth int) (api.Type, bool) {
	if depth > api.MaxDepth {
		return api.Type{}, false
	}
	t, ok := r.head()
	if !ok {
		return api.Type{}, false
	}
	if r.Take("{") {
		t.Sort, ok = r.classes()
		if !ok {
			return api.Type{}, false
		}
	}
	if r.Take("(") {
		t.Args, ok = r.args(depth + 1)
		if !ok {
			return api.Type{}, false
		}
	}
	return t, true
}

// head takes the kind, the name and the index of a type.
func (r *Reader) head() (api.Type, bool) {
	if r.Take("'") {
		return api.Type{Op: api.TFree, Name: r.Word()}, true
	}
	if !r.Take("?") {
		return api.Type{Op: api.TCon, Name: r.Word()}, true
	}
	name, index, ok := r.Indexed()
	if !ok {
		return api.Type{}, false
	}
	return api.Type{Op: api.TVar, Name: name, Index: index}, true
}

// classes takes the classes of a sort behind its brace, and the brace at its end.
func (r *Reader) classes() ([]string, bool) {
	var l []string
	for {
		c := r.Word()
		l = append(l, c)
		if r.Take("}") {
			return l, true
		}
		if !r.Take(",") {
			return nil, false
		}
	}
}

// args takes types behind a bracket, and the bracket at their end.
func (r *Reader) args(depth int) ([]api.Type, bool) {
	var l []api.Type
	for {
		t, ok := r.within(depth)
		if !ok {
			return nil, false
		}
		l = append(l, t)
		if r.Take(")") {
			return l, true
		}
		if !r.Take(", ") {
			return nil, false
		}
	}
}
