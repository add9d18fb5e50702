package mixfix

import (
	"slices"
	"strconv"
	"strings"

	"triforium/api"
	"triforium/infer"
	"triforium/sort"
	"triforium/term"
	"triforium/theory"
	"triforium/types"
)

// part is the tokens of a part of a text, and the priority of its production.
type part struct {
	tokens []string
	prio   int
}

// writer writes raw terms and types.
type writer struct {
	l      []Notation
	prio   []int    // of the productions of terms and types
	taken  []string // the names that no variable of an abstraction may have
	around []string // the variables of the abstractions around
	all    bool     // brackets around all parts that are not single tokens
}

func newWriter(l []Notation) *writer {
	w := &writer{l: l}
	for _, p := range base() {
		w.prio = append(w.prio, p.Prio)
	}
	return w
}

// at returns the tokens of a part at a place that wants at least a priority.
func (w *writer) at(place int, p part) []string {
	if p.prio < place || w.all && len(p.tokens) > 1 {
		return slices.Concat([]string{"("}, p.tokens, []string{")"})
	}
	return p.tokens
}

// joined returns the text of tokens.
func joined(tokens []string) string {
	var b strings.Builder
	for i, t := range tokens {
		if i > 0 && isSpaced(tokens[i-1], t) {
			b.WriteByte(' ')
		}
		b.WriteString(t)
	}
	return b.String()
}

// isSpaced reports whether a space stands between two tokens. A bracket with a star behind it would begin a comment.
func isSpaced(a, b string) bool {
	switch b {
	case ")", "}", ",", ".":
		return false
	}
	switch a {
	case "{":
		return false
	case "(":
		return strings.HasPrefix(b, "*")
	}
	return true
}

func TypeText(t api.Type) (string, api.Errno) {
	if e := types.Form(t); e != api.OK {
		return "", e
	}
	text := joined(newWriter(nil).typ(t).tokens)
	back, e := Type(text)
	if e != api.OK || !types.Equal(back, t) {
		return "", ErrNoText
	}
	return text, api.OK
}

// typ writes a type.
func (w *writer) typ(t api.Type) part {
	switch {
	case t.Op == api.TFree:
		return w.sorted(typeFree, "'"+t.Name, t.Sort)
	case t.Op == api.TVar:
		return w.sorted(typeVar, withIndex("?'"+t.Name, t.Index), t.Sort)
	case types.IsFun(t):
		left := w.at(1, w.typ(t.Args[0]))
		right := w.at(0, w.typ(t.Args[1]))
		return part{slices.Concat(left, []string{"=>"}, right), w.prio[typeFun]}
	case len(t.Args) == 0:
		return part{[]string{t.Name}, w.prio[typeName]}
	case len(t.Args) == 1:
		return part{append(w.at(w.prio[typeApp], w.typ(t.Args[0])), t.Name), w.prio[typeApp]}
	}
	out := []string{"("}
	for i, a := range t.Args {
		if i > 0 {
			out = append(out, ",")
		}
		out = append(out, w.at(0, w.typ(a))...)
	}
	return part{append(out, ")", t.Name), w.prio[typeApps]}
}

// sorted writes a type variable with a sort.
func (w *writer) sorted(prod int, name string, s []string) part {
	out := []string{name}
	if len(s) > 0 {
		out = append(out, "::")
	}
	if len(s) == 1 {
		out = append(out, s[0])
	}
	if len(s) > 1 {
		out = append(out, "{", s[0])
		for _, c := range s[1:] {
			out = append(out, ",", c)
		}
		out = append(out, "}")
	}
	return part{out, w.prio[prod]}
}

// withIndex returns the text of a schematic variable.
func withIndex(name string, n int) string {
	if n == 0 {
		return name
	}
	return name + "." + strconv.Itoa(n)
}

// Print returns the text of a term with the fewest brackets, and with the types that it needs.
func Print(thy api.Theory, l []Notation, known []infer.Known, t api.Term) (text string, err api.Errno) {
	if e := Check(l); e != api.OK {
		return "", e
	}
	raw, e := infer.Pinned(thy, known, t)
	if e != api.OK {
		return "", e
	}
	g, e := theory.Sign(thy)
	if e != api.OK {
		return "", e
	}
	defer func() {
		if r := recover(); r != nil {
			text, err = "", ErrNoText
		}
	}()
	w := newWriter(l)
	w.taken = takenNames(l, t)
	for {
		s := joined(w.term(&raw).tokens)
		back, e := readIn(g, l, known, s, api.Type{})
		if e == api.OK && term.Equal(back, t) {
			return s, api.OK
		}
		if w.all {
			panic(ErrNoText)
		}
		w.all = true
	}
}

// takenNames returns the names of variables and constants of a term, and the words of notations.
func takenNames(l []Notation, t api.Term) []string {
	out := Keywords(l)
	for n := range term.Nodes(t) {
		if n.Op == api.Free || n.Op == api.Const {
			out = append(out, n.Name)
		}
	}
	slices.Sort(out)
	return slices.Compact(out)
}

// isOpen reports whether a raw node has no type.
func isOpen(t *api.Term) bool { return t.Type.Op == 0 }

// term writes a raw term.
func (w *writer) term(t *api.Term) part {
	head, args := spine(t)
	if head.Op == api.Const && isOpen(head) {
		i := slices.IndexFunc(w.l, func(n Notation) bool { return n.Const == head.Name && n.takes(args) })
		if i >= 0 {
			return w.notation(w.l[i], args)
		}
	}
	out := w.head(head)
	for _, a := range args {
		f := w.at(w.prio[termApp], out)
		out = part{slices.Concat(f, w.at(1000, w.term(a))), w.prio[termApp]}
	}
	return out
}

// spine returns the head of applications and its arguments.
func spine(t *api.Term) (*api.Term, []*api.Term) {
	var args []*api.Term
	for t.Op == api.App {
		args = append(args, &t.Kids[1])
		t = &t.Kids[0]
	}
	slices.Reverse(args)
	return t, args
}

// takes reports whether the arguments are those that a notation has.
func (n Notation) takes(args []*api.Term) bool {
	return len(args) == n.arguments() && (n.Kind != Binder || args[0].Op == api.Abs)
}

// notation writes arguments by a notation that takes them.
func (w *writer) notation(n Notation, args []*api.Term) part {
	var out []string
	switch n.Kind {
	case Mixfix:
		for i, s := range n.Words {
			if s != "" {
				out = append(out, s)
			}
			if i < len(args) {
				out = append(out, w.at(n.Prios[i], w.term(args[i]))...)
			}
		}
	case Binder:
		out = w.abs(n.Words[0], args[0], n.Prio)
	default:
		left, right := n.sides()
		out = slices.Concat(w.at(left, w.term(args[0])), n.Words, w.at(right, w.term(args[1])))
	}
	return part{out, n.Prio}
}

// head writes a raw term that is no application, by no notation.
func (w *writer) head(t *api.Term) part {
	out := part{[]string{t.Name}, w.prio[termName]}
	switch t.Op {
	case api.Bound:
		return part{[]string{w.around[len(w.around)-1-t.Num]}, w.prio[termName]}
	case api.Abs:
		return part{w.abs("%", t, w.prio[termAbs]), w.prio[termAbs]}
	case api.Var:
		out = part{[]string{withIndex("?"+t.Name, t.Num)}, w.prio[termVar]}
	}
	if isOpen(t) {
		return out
	}
	tokens := slices.Concat(w.at(4, out), []string{"::"}, w.at(0, w.typ(t.Type)))
	return part{tokens, w.prio[termTyped]}
}

// abs writes an abstraction behind a word, its body at a place that wants at least a priority.
func (w *writer) abs(word string, t *api.Term, place int) []string {
	name := t.Name
	if !sort.IsName(name) || strings.Contains(name, ".") {
		name = "x"
	}
	name = term.Variant(name, slices.Concat(w.taken, w.around))
	idt := []string{name}
	if !isOpen(t) {
		idt = slices.Concat([]string{"(", name, "::"}, w.at(0, w.typ(t.Type)), []string{")"})
	}
	w.around = append(w.around, name)
	body := w.at(place, w.term(&t.Kids[0]))
	w.around = w.around[:len(w.around)-1]
	return slices.Concat([]string{word}, idt, []string{"."}, body)
}
