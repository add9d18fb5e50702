package outer

import (
	"math/rand"
	"slices"
	"strconv"
	"strings"

	"triforium/api"
	"triforium/token"
)

// What the document says of commands, written out again: the sentences of tokens that each word has behind it.
// N is a NAME, T a TEXT, D a NUMBER, C the sign `::`, b, i and w are begin, imports and where, M is any token but a word.

// times returns the sentences of a list, so often from least to most, one behind the other.
func times(l []string, least, most int) []string {
	out := []string{}
	now := []string{""}
	for n := 0; n <= most; n++ {
		if n >= least {
			out = append(out, now...)
		}
		now = seq(now, l)
	}
	return out
}

// seq returns the sentences of some lists, one behind the other.
func seq(l ...[]string) []string {
	out := []string{""}
	for _, k := range l {
		var next []string
		for _, a := range out {
			for _, b := range k {
				next = append(next, a+b)
			}
		}
		out = next
	}
	return out
}

func one(s string) []string { return []string{s} }

// sentences returns the sentences of a word, with not too many parts.
func sentences(word string, many int) []string {
	label, variable := []string{"", "N:"}, []string{"N", "NCT"}
	texts, names := times(one("T"), 1, many), times(one("N"), 1, many)
	switch word {
	case "also", "end", "finally", "moreover", "next", "then", "ultimately":
		return one("")
	case "assume":
		return seq(label, texts)
	case "arity":
		return seq(one("NN"), times(one("T"), 0, many))
	case "axiom", "definition", "lemma":
		return one("N:T")
	case "by", "proof":
		return times(one("M"), 1, 2*many)
	case "case", "classes", "from":
		return names
	case "consts":
		return one("NCT")
	case "datatype":
		return texts
	case "declare":
		return one("N")
	case "fix":
		return times(variable, 1, many)
	case "fun", "inductive":
		return seq(one("NCTw"), texts)
	case "have", "show":
		return seq(label, one("T"))
	case "notation":
		return seq(one("NN"), texts, times(one("D"), 1, many))
	case "note":
		return seq(one("N="), names)
	case "obtain":
		return seq(times(variable, 1, many-2), one("w"), label, texts)
	case "qed":
		return times(one("M"), 0, 2*many)
	case "theory":
		return seq(one("Ni"), names, one("b"))
	case "typedecl":
		return one("ND")
	}
	return nil
}

var known = map[string][]string{}

// long returns sentences that are longer than those of random commands.
func long(word string) []string {
	if known[word] == nil {
		known[word] = sentences(word, 8)
	}
	return known[word]
}

// letter returns what a token is in a sentence; "?" for what stands in none.
func letter(t token.Token) string {
	switch t.Kind {
	case token.Ident, token.Long:
		return "N"
	case token.String, token.Quoted:
		return "T"
	case token.Number:
		if n, e := strconv.Atoi(t.Text); e == nil && len(t.Text) < 8 && strconv.Itoa(n) == t.Text {
			return "D"
		}
	case token.Keyword:
		if l := map[string]string{":": ":", "::": "C", "=": "=", "begin": "b", "imports": "i", "where": "w"}[t.Text]; l != "" {
			return l
		}
		return "W"
	}
	return "?"
}

// isPrefix reports whether tokens stand at the front of a sentence.
func isPrefix(l []token.Token, s string) bool {
	for i, t := range l {
		if i >= len(s) || letter(t) != s[i:i+1] && (s[i] != 'M' || letter(t) == "W") {
			return false
		}
	}
	return true
}

func naiveRead(text string) (Command, int, api.Errno) {
	l, at, e := token.Scan(slices.Concat(Words(), Signs()), text)
	if e != api.OK {
		return Command{}, at, e
	}
	places := []int{}
	for _, t := range l {
		places = append(places, t.At)
	}
	places = append(places, len(text))
	if len(l) == 0 || letter(l[0]) != "W" {
		return Command{}, places[0], ErrCommand
	}
	all, c := long(l[0].Text), Command{Word: l[0].Text, At: l[0].At}
	if !slices.ContainsFunc(all, func(s string) bool { return len(s) == len(l)-1 && isPrefix(l[1:], s) }) {
		n := 1
		for n < len(l) && slices.ContainsFunc(all, func(s string) bool { return isPrefix(l[1:n+1], s) }) {
			n++
		}
		return Command{}, places[n], ErrCommand
	}
	if strings.Contains("by proof qed", c.Word) {
		if len(l) > 1 {
			end := l[len(l)-1].At
			for !hasTokens(text[:end], l) {
				end++
			}
			c.Parts = []Part{{Method, text[l[1].At:end], 0, l[1].At}}
		}
		return c, 0, api.OK
	}
	for _, t := range l[1:] {
		p := Part{Kind: Sign, Text: t.Text, At: t.At}
		switch letter(t) {
		case "N":
			p.Kind = Name
		case "T":
			p.Kind = Text
		case "D":
			p.Kind, p.Text = Num, ""
			p.Num, _ = strconv.Atoi(t.Text)
		}
		c.Parts = append(c.Parts, p)
	}
	return c, 0, api.OK
}

// hasTokens reports whether a text has some tokens, and no others.
func hasTokens(text string, l []token.Token) bool {
	found, _, e := token.Scan(slices.Concat(Words(), Signs()), text)
	return e == api.OK && slices.Equal(found, l)
}

// naiveTokens returns the tokens of a text, whatever it is, by the document's words.
func naiveTokens(text string) []token.Token {
	words := slices.Concat(Words(), Signs())
	l, p, e := token.Scan(words, text)
	if e == api.OK {
		return l
	}
	out := naiveTokens(text[:p])
	for _, t := range naiveTokens(text[p+1:]) {
		t.At += p + 1
		out = append(out, t)
	}
	return out
}

func naiveSpans(text string) []Span {
	places, words := []int{0}, []string{""}
	for _, t := range naiveTokens(text) {
		if letter(t) == "W" {
			places, words = append(places, t.At), append(words, t.Text)
		}
	}
	places = append(places, len(text))
	var out []Span
	for i, w := range words {
		if w != "" || places[i] < places[i+1] {
			out = append(out, Span{w, places[i], places[i+1]})
		}
	}
	return out
}

// naiveNew returns how many spans of an edited text are new.
func naiveNew(old, l []Span, at, removed, inserted int) int {
	for first := min(len(old), len(l)); ; first-- {
		ok := true
		for i := range first {
			ok = ok && old[i] == l[i] && l[i].To <= at
		}
		if !ok {
			continue
		}
		for last := min(len(old), len(l)) - first; ; last-- {
			ok := true
			for i := range last {
				a, b := old[len(old)-1-i], l[len(l)-1-i]
				ok = ok && a.Word == b.Word && b.At-a.At == inserted-removed && b.To-a.To == inserted-removed && a.At >= at+removed
			}
			if ok {
				return len(l) - first - last
			}
		}
	}
}

// gen makes random texts.
type gen struct{ *rand.Rand }

func newGen(seed int) gen { return gen{rand.New(rand.NewSource(int64(seed)))} }

func (g gen) pick(l ...string) string { return l[g.Intn(len(l))] }

// text returns a text of parts of commands, with spaces.
func (g gen) text(n int) string {
	var b strings.Builder
	for range g.Intn(n) {
		b.WriteString(g.pick("a", "x.y", `"t"`, `\<open>q "\<close>`, "1", "02", "12345678", ":", "::", "=", "begin", "imports", "where", "(", "+", "?x", "have", "by", "fix", "qed", "also", "from", "note", "(* have *)"))
		b.WriteString(g.pick(" ", " ", "\n", "  "))
	}
	return b.String()
}

// garbage returns a text that may have errors.
func (g gen) garbage(n int) string {
	var b strings.Builder
	for range g.Intn(n) {
		b.WriteString(g.pick("have", "by", "end", "fix", " ", " ", "\n", `"`, `"x"`, "(*", "*)", `\<open>`, `\<close>`, "`", "'", "\xff", "a", ".", ":", "=", `\`, "(", "0"))
	}
	return b.String()
}

// command returns the text of a command of a word, nearly always a right one.
func (g gen) command(word string) string {
	all := sentences(word, 6)
	s := all[g.Intn(len(all))]
	if g.Intn(8) == 0 {
		i := g.Intn(len(s) + 1)
		s = s[:i] + g.pick("", "N", "T", "D", ":", "C", "=", "M", "W") + s[min(len(s), i+g.Intn(2)):]
	}
	out := word
	for _, c := range s {
		out += g.pick(" ", " ", "\n", " (* c *) ")
		switch c {
		case 'N':
			out += g.pick("a", "b'", "x.y", "long.name.of")
		case 'T':
			out += g.pick(`""`, `"x = \"y\\\n"`, `\<open>a "b"\<close>`, `"have"`)
		case 'D':
			out += g.pick("0", "7", "1234567")
		case 'C':
			out += "::"
		case 'b', 'i', 'w':
			out += map[rune]string{'b': "begin", 'i': "imports", 'w': "where"}[c]
		case 'M':
			out += g.pick("rule", "a.b", "(", ")", "|", "3", ":", "where", `"x"`, `\<open> "\<close>`, ",", ";", "?x", "-")
		case 'W':
			out += g.pick("have", "end")
		default:
			out += string(c)
		}
	}
	return out + g.pick("", " ", "\n(* end *)")
}
