package token

import (
	"iter"
	"strings"
)

const (
	opening = `\<open>`
	closing = `\<close>`
)

// The functions here return how many bytes, from the front of a text, are of a kind: 0 for none.

func isLetter(b byte) bool {
	return 'a' <= b && b <= 'z' || 'A' <= b && b <= 'Z' || b == '_'
}

func isDigit(b byte) bool { return '0' <= b && b <= '9' }

func isSign(b byte) bool { return strings.IndexByte("!#$%&*+-/:<=>@^|~", b) >= 0 }

func isSpace(b byte) bool { return b == ' ' || b == '\t' || b == '\n' || b == '\r' }

// run returns how many bytes in a row, from the front, fulfil a condition.
func run(s string, is func(byte) bool) int {
	n := 0
	for n < len(s) && is(s[n]) {
		n++
	}
	return n
}

func identifier(s string) int {
	if s == "" || !isLetter(s[0]) {
		return 0
	}
	return run(s, func(b byte) bool { return isLetter(b) || isDigit(b) || b == '\'' })
}

func digits(s string) int { return run(s, isDigit) }

func signs(s string) int { return run(s, isSign) }

func point(s string) int {
	if s != "" && strings.IndexByte("()[]{},;.", s[0]) >= 0 {
		return 1
	}
	return 0
}

// named is for the named symbols.
func named(s string) int {
	if !strings.HasPrefix(s, `\<`) {
		return 0
	}
	n := 2 + identifier(s[2:])
	if n == 2 || n == len(s) || s[n] != '>' {
		return 0
	}
	return n + 1
}

// long is for two identifiers or more, with dots between.
func long(s string) int {
	n := identifier(s)
	first := n
	for n > 0 && n < len(s) && s[n] == '.' {
		k := identifier(s[n+1:])
		if k == 0 {
			break
		}
		n += 1 + k
	}
	if n == first {
		return 0
	}
	return n
}

// marked is for a mark with an identifier behind it.
func marked(s, mark string) int {
	rest, ok := strings.CutPrefix(s, mark)
	if !ok {
		return 0
	}
	n := identifier(rest)
	if n == 0 {
		return 0
	}
	return len(mark) + n
}

// indexed is for a mark with an identifier, and perhaps a dot and digits.
func indexed(s, mark string) int {
	n := marked(s, mark)
	if n > 0 && n < len(s) && s[n] == '.' {
		if k := digits(s[n+1:]); k > 0 {
			return n + 1 + k
		}
	}
	return n
}

// nested returns a function that returns the length of what goes from the front of a text, where a text opens it, to the text that closes it: 0 if there is no such end.
func nested(open, end string) func(s string) int {
	return func(s string) int {
		depth, n := 0, 0
		for n < len(s) {
			switch {
			case strings.HasPrefix(s[n:], open):
				depth++
				n += len(open)
			case strings.HasPrefix(s[n:], end):
				depth--
				n += len(end)
			default:
				n++
			}
			if depth == 0 {
				return n
			}
		}
		return 0
	}
}

// scanner takes tokens from a text.
type scanner struct {
	text  string
	words map[string]bool
}

// candidate is one of the kinds of tokens: how many bytes one has that begins at a place, 0 if none does.
type candidate struct {
	kind   int
	length func(at int) int
}

// candidates returns the kinds in the order in which the first of those of one length counts.
func (s *scanner) candidates() []candidate {
	return []candidate{
		{Keyword, s.keyword},
		{Ident, s.ident},
		{Long, s.long},
		{TypeVar, s.typeVar},
		{Schema, s.schema},
		{SchemaT, s.schemaT},
		{Number, s.number},
		{Symbol, s.symbol},
		{String, s.str},
		{Quoted, s.quoted},
	}
}

func (s *scanner) ident(at int) int { return identifier(s.text[at:]) }

func (s *scanner) long(at int) int { return long(s.text[at:]) }

func (s *scanner) typeVar(at int) int { return marked(s.text[at:], "'") }

func (s *scanner) schema(at int) int { return indexed(s.text[at:], "?") }

func (s *scanner) schemaT(at int) int { return indexed(s.text[at:], "?'") }

func (s *scanner) number(at int) int { return digits(s.text[at:]) }

func (s *scanner) symbol(at int) int {
	rest := s.text[at:]
	return max(named(rest), signs(rest), point(rest))
}

// keyword is for the longest keyword. Those that are identifiers must be all of the identifier that stands there.
func (s *scanner) keyword(at int) int {
	rest := s.text[at:]
	if n := identifier(rest); n > 0 {
		if s.words[rest[:n]] && long(rest) == 0 {
			return n
		}
		return 0
	}
	for n := s.symbol(at); n > 0; n-- {
		if s.words[rest[:n]] {
			return n
		}
	}
	return 0
}

// str is for strings: a text with the mark of one must be one.
func (s *scanner) str(at int) int {
	if s.text[at] != '"' {
		return 0
	}
	for n := at + 1; n < len(s.text); n++ {
		switch s.text[n] {
		case '"':
			return n + 1 - at
		case '\n':
			panic(fault{at, ErrString})
		case '\\':
			n++
			if n == len(s.text) || strings.IndexByte(`"\n`, s.text[n]) < 0 {
				panic(fault{at, ErrString})
			}
		}
	}
	panic(fault{at, ErrString})
}

// quoted is for quotations, likewise.
func (s *scanner) quoted(at int) int {
	rest := s.text[at:]
	if !strings.HasPrefix(rest, opening) {
		return 0
	}
	n := nested(opening, closing)(rest)
	if n == 0 {
		panic(fault{at, ErrString})
	}
	return n
}

// tokens yields the tokens, and panics with the first fault.
func (s *scanner) tokens() iter.Seq[Token] {
	return func(yield func(Token) bool) {
		kinds := s.candidates()
		for at := s.next(0); at < len(s.text); {
			t, n := s.token(kinds, at)
			if !yield(t) {
				return
			}
			at = s.next(at + n)
		}
	}
}

// next returns the first place, from one on, at which no space and no comment stands.
func (s *scanner) next(at int) int {
	comment := nested("(*", "*)")
	for {
		at += run(s.text[at:], isSpace)
		if !strings.HasPrefix(s.text[at:], "(*") {
			return at
		}
		n := comment(s.text[at:])
		if n == 0 {
			panic(fault{at, ErrComment})
		}
		at += n
	}
}

// token returns the token at a place, and the number of its bytes.
func (s *scanner) token(kinds []candidate, at int) (Token, int) {
	kind, most := 0, 0
	for _, c := range kinds {
		if n := c.length(at); n > most {
			kind, most = c.kind, n
		}
	}
	if most == 0 {
		panic(fault{at, ErrByte})
	}
	return Token{kind, meaning(kind, s.text[at:at+most]), at}, most
}

// meaning returns the Text of a token whose bytes are some.
func meaning(kind int, s string) string {
	switch kind {
	case String:
		return unquote(s)
	case Quoted:
		return s[len(opening) : len(s)-len(closing)]
	}
	return s
}

// unquote returns what a String means, quote the String that means a text.
func unquote(s string) string {
	var b strings.Builder
	for i := 1; i < len(s)-1; i++ {
		c := s[i]
		if c == '\\' {
			i++
			c = s[i]
			if c == 'n' {
				c = '\n'
			}
		}
		b.WriteByte(c)
	}
	return b.String()
}

func quote(s string) string {
	var b strings.Builder
	b.WriteByte('"')
	for i := range len(s) {
		switch s[i] {
		case '"', '\\':
			b.WriteByte('\\')
			b.WriteByte(s[i])
		case '\n':
			b.WriteString(`\n`)
		default:
			b.WriteByte(s[i])
		}
	}
	b.WriteByte('"')
	return b.String()
}
