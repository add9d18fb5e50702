package mixfix

import (
	"slices"
	"strconv"
	"strings"

	"triforium/api"
	"triforium/grammar"
	"triforium/infer"
	"triforium/term"
	"triforium/theory"
	"triforium/token"
	"triforium/types"
)

const (
	maxReadings = 100
	maxIndex    = 1000000 // of a schematic variable
	maxDigits   = 7
	readMost    = 31 // readings that Read looks at: one more than it permits
)

// Readings returns the first raw terms (infer), at most so many, with a text; with an error, a byte offset.
func Readings(l []Notation, text string, most int) ([]api.Term, int, api.Errno) {
	if e := Check(l); e != api.OK {
		return nil, 0, e
	}
	if most < 1 || most > maxReadings {
		return nil, 0, api.ErrRange
	}
	r, trees, at, e := parse(l, termSymbol, text, most)
	if e != api.OK {
		return nil, at, e
	}
	var out []api.Term
	for _, t := range trees {
		raw := r.term(t)
		if !slices.ContainsFunc(out, func(o api.Term) bool { return term.Equal(o, raw) }) {
			out = append(out, raw)
		}
	}
	return out, 0, api.OK
}

// parse returns the first trees of a symbol with a text, and what makes terms and types of them; with an error, a byte offset. The notations are right.
func parse(l []Notation, symbol, text string, most int) (*reader, []grammar.Tree, int, api.Errno) {
	tokens, at, e := token.Scan(Keywords(l), text)
	if e != api.OK {
		return nil, nil, at, e
	}
	if len(tokens) > grammar.MaxTokens {
		return nil, nil, 0, api.ErrCount
	}
	if i := slices.IndexFunc(tokens, isTooLarge); i >= 0 {
		return nil, nil, tokens[i].At, api.ErrText
	}
	var in []grammar.Token
	for _, t := range tokens {
		in = append(in, grammar.Token{Kind: kindOf(t), Text: t.Text})
	}
	g := productions(l)
	trees, e := grammar.Parse(g, symbol, 0, in, most)
	if e == grammar.ErrNone {
		return nil, nil, place(g, symbol, in, tokens, text), api.ErrText
	}
	if e != api.OK {
		return nil, nil, 0, e
	}
	return &reader{l, tokens}, trees, 0, api.OK
}

// place returns the place of the first token that is no beginning with those ahead of it.
func place(g []grammar.Prod, symbol string, in []grammar.Token, tokens []token.Token, text string) int {
	n, _ := grammar.Reach(g, symbol, 0, in)
	if n < 0 || n >= len(tokens) {
		return len(text)
	}
	return tokens[n].At
}

// kindOf returns the kind that a token has in the grammar.
func kindOf(t token.Token) string {
	switch t.Kind {
	case token.Ident, token.Long:
		return idKind
	case token.Schema:
		return varKind
	case token.TypeVar:
		return tfreeKind
	case token.SchemaT:
		return tvarKind
	case token.Number:
		return numKind
	case token.String, token.Quoted:
		return strKind
	}
	return ""
}

// isTooLarge reports whether a token has too long a name, or too great an index.
func isTooLarge(t token.Token) bool {
	switch t.Kind {
	case token.Ident, token.Long:
		return len(t.Text) > api.MaxName
	case token.TypeVar:
		return len(t.Text) > len("'")+api.MaxName
	case token.Schema, token.SchemaT:
		name, _, ok := indexed(t)
		return !ok || len(name) > api.MaxName
	}
	return false
}

// indexed returns the name and the index of a Schema or SchemaT; false, if the index is too great or has a needless 0 ahead.
func indexed(t token.Token) (name string, index int, ok bool) {
	name = strings.TrimPrefix(strings.TrimPrefix(t.Text, "?"), "'")
	name, digits, found := strings.Cut(name, ".")
	if !found {
		return name, 0, true
	}
	if len(digits) > maxDigits || len(digits) > 1 && digits[0] == '0' {
		return name, 0, false
	}
	n, err := strconv.Atoi(digits)
	return name, n, err == nil && n <= maxIndex
}

// Read returns the term with a text.
func Read(thy api.Theory, l []Notation, known []infer.Known, text string, want api.Type) (api.Term, api.Errno) {
	g, e := theory.Sign(thy)
	if e != api.OK {
		return api.Term{}, e
	}
	return readIn(g, l, known, text, want)
}

// readIn is Read in a theory whose signature is known.
func readIn(g term.Signature, l []Notation, known []infer.Known, text string, want api.Type) (api.Term, api.Errno) {
	readings, _, e := Readings(l, text, readMost)
	if e != api.OK {
		return api.Term{}, e
	}
	if len(readings) == readMost {
		return api.Term{}, api.ErrLarge
	}
	fixed := map[string]bool{}
	for _, k := range known {
		fixed[k.Name] = true
	}
	for i := range readings {
		constants(g, fixed, &readings[i])
	}
	t, _, e := infer.ChooseIn(g, known, readings, want)
	return t, e
}

// constants makes constants of variables that have the name of one, and are not fixed.
func constants(g term.Signature, fixed map[string]bool, t *api.Term) {
	if t.Op == api.Free && !fixed[t.Name] {
		if _, ok := g.Const(t.Name); ok {
			t.Op = api.Const
		}
	}
	for i := range t.Kids {
		constants(g, fixed, &t.Kids[i])
	}
}

// Type returns the type with a text; TypeText the text of a type.
func Type(text string) (api.Type, api.Errno) {
	r, trees, _, e := parse(nil, typeSymbol, text, 1)
	if e != api.OK {
		return api.Type{}, e
	}
	t := r.typ(trees[0])
	if e := types.Form(t); e != api.OK {
		return api.Type{}, e
	}
	return t, api.OK
}
