package outer

import (
	"slices"
	"strconv"
	"strings"

	"triforium/api"
	"triforium/token"
)

const (
	maxParts  = 1000
	maxDigits = 7
)

// fault is the place of what is not as it must be.
type fault int

// taker takes the parts of a command from its tokens.
type taker struct {
	tokens []token.Token
	next   int
	text   string // in which the tokens stand, up to the end of the command
	parts  []Part
}

// read returns the command of tokens of a text; with an error, a place in it.
func read(l []token.Token, text string) (c Command, at int, err api.Errno) {
	defer func() {
		if r := recover(); r != nil {
			f, _ := r.(fault)
			c, at, err = Command{}, int(f), ErrCommand
		}
	}()
	t := &taker{tokens: l, text: text}
	word := t.peek()
	if !isWord(word) {
		t.fail()
	}
	t.next++
	for _, take := range t.patterns(word.Text) {
		take()
	}
	if t.next < len(l) {
		t.fail()
	}
	return Command{word.Text, word.At, t.parts}, 0, api.OK
}

// fail leaves with the place of the next token, or that of the end.
func (t *taker) fail() {
	if t.next < len(t.tokens) {
		panic(fault(t.tokens[t.next].At))
	}
	panic(fault(len(t.text)))
}

// peek returns the next token, the zero one behind the last one.
func (t *taker) peek() token.Token {
	if t.next < len(t.tokens) {
		return t.tokens[t.next]
	}
	return token.Token{}
}

// take takes a part of a kind from the next token.
func (t *taker) take(p Part) {
	p.At = t.tokens[t.next].At
	t.parts = append(t.parts, p)
	t.next++
}

func isName(k token.Token) bool { return k.Kind == token.Ident || k.Kind == token.Long }

func isText(k token.Token) bool { return k.Kind == token.String || k.Kind == token.Quoted }

func isNumber(k token.Token) bool {
	return k.Kind == token.Number && len(k.Text) <= maxDigits && (k.Text[0] != '0' || len(k.Text) == 1)
}

func (t *taker) isSign(s string) bool {
	k := t.peek()
	return k.Kind == token.Keyword && k.Text == s
}

// The patterns of parts: each one takes what it is, or fails.

func (t *taker) name() {
	if !isName(t.peek()) {
		t.fail()
	}
	t.take(Part{Kind: Name, Text: t.peek().Text})
}

func (t *taker) words() {
	if !isText(t.peek()) {
		t.fail()
	}
	t.take(Part{Kind: Text, Text: t.peek().Text})
}

func (t *taker) number() {
	if !isNumber(t.peek()) {
		t.fail()
	}
	n, _ := strconv.Atoi(t.peek().Text)
	t.take(Part{Kind: Num, Num: n})
}

func (t *taker) sign(s string) func() {
	return func() {
		if !t.isSign(s) {
			t.fail()
		}
		t.take(Part{Kind: Sign, Text: s})
	}
}

func (t *taker) label() {
	if isName(t.peek()) {
		t.name()
		t.sign(":")()
	}
}

func (t *taker) variable() {
	t.name()
	if t.isSign("::") {
		t.sign("::")()
		t.words()
	}
}

// method takes all that is left.
func (t *taker) method() {
	first := t.peek()
	if t.next == len(t.tokens) {
		t.fail()
	}
	for ; t.next < len(t.tokens); t.next++ {
		if isWord(t.peek()) {
			t.fail()
		}
	}
	last := t.tokens[len(t.tokens)-1]
	source, _ := token.Write(keywords(), last)
	t.parts = append(t.parts, Part{Kind: Method, Text: t.text[first.At : last.At+len(source)], At: first.At})
}

func (t *taker) methodOrNothing() {
	if t.next < len(t.tokens) {
		t.method()
	}
}

// any takes as many parts of a pattern as there are tokens that begin one.
func (t *taker) any(begins func(token.Token) bool, take func()) func() {
	return func() {
		for begins(t.peek()) {
			take()
		}
	}
}

// patterns are those of the parts of a command, in order.
type patterns []func()

// patterns returns the patterns of the parts that a word has behind it.
func (t *taker) patterns(word string) patterns {
	colon, colons, equals, where := t.sign(":"), t.sign("::"), t.sign("="), t.sign("where")
	names, texts := t.any(isName, t.name), t.any(isText, t.words)
	numbers, variables := t.any(isNumber, t.number), t.any(isName, t.variable)
	switch word {
	case "assume":
		return patterns{t.label, t.words, texts}
	case "arity":
		return patterns{t.name, t.name, texts}
	case "axiom", "definition", "lemma":
		return patterns{t.name, colon, t.words}
	case "by", "proof":
		return patterns{t.method}
	case "case", "classes":
		return patterns{t.name, names}
	case "consts":
		return patterns{t.name, colons, t.words}
	case "datatype":
		return patterns{t.words, texts}
	case "declare":
		return patterns{t.name}
	case "fix":
		return patterns{t.variable, variables}
	case "from":
		return patterns{t.name, names}
	case "fun", "inductive":
		return patterns{t.name, colons, t.words, where, t.words, texts}
	case "have", "show":
		return patterns{t.label, t.words}
	case "notation":
		return patterns{t.name, t.name, t.words, texts, t.number, numbers}
	case "note":
		return patterns{t.name, equals, t.name, names}
	case "obtain":
		return patterns{t.variable, variables, where, t.label, t.words, texts}
	case "qed":
		return patterns{t.methodOrNothing}
	case "theory":
		return patterns{t.name, t.sign("imports"), t.name, names, t.sign("begin")}
	case "typedecl":
		return patterns{t.name, t.number}
	}
	return nil
}

// Write returns the text of a command.
func Write(c Command) (string, api.Errno) {
	if len(c.Parts) > maxParts {
		return "", api.ErrCount
	}
	texts := []string{c.Word}
	for _, p := range c.Parts {
		s, ok := p.text()
		if !ok {
			return "", ErrCommand
		}
		texts = append(texts, s)
	}
	text := strings.Join(texts, " ")
	back, _, e := Read(text)
	if e != api.OK || back.Word != c.Word || !slices.EqualFunc(back.Parts, c.Parts, samePart) {
		return "", ErrCommand
	}
	return text, api.OK
}

// samePart reports whether parts are equal but for their places.
func samePart(a, b Part) bool {
	a.At = b.At
	return a == b
}

// text returns the text of a part; false, if it has none.
func (p Part) text() (string, bool) {
	switch p.Kind {
	case Name, Sign, Method:
		return p.Text, true
	case Num:
		return strconv.Itoa(p.Num), true
	case Text:
		s, e := token.Write(keywords(), token.Token{Kind: token.String, Text: p.Text})
		return s, e == api.OK
	}
	return "", false
}
