package token

import (
	"math/rand"
	"regexp"
	"slices"
	"strings"

	"triforium/api"
)

// What the document says of tokens, written out again with regular expressions.

const ident = `[A-Za-z_][A-Za-z0-9_']*`

var patterns = map[int]*regexp.Regexp{
	Ident:   regexp.MustCompile(`^` + ident),
	Long:    regexp.MustCompile(`^` + ident + `(\.` + ident + `)+`),
	TypeVar: regexp.MustCompile(`^'` + ident),
	Schema:  regexp.MustCompile(`^\?` + ident + `(\.[0-9]+)?`),
	SchemaT: regexp.MustCompile(`^\?'` + ident + `(\.[0-9]+)?`),
	Number:  regexp.MustCompile(`^[0-9]+`),
	Symbol:  regexp.MustCompile(`^(\\<` + ident + `>|[!#$%&*+\-/:<=>@^|~]+|[()\[\]{},;.])`),
	String:  regexp.MustCompile(`^"([^"\\\n]|\\["\\n])*"`),
}

var blanks = regexp.MustCompile(`^[ \t\n\r]*`)

// naiveEnd returns where what a text opens is closed, by counting; -1, if it is not.
func naiveEnd(s, open, end string) int {
	depth := 0
	for i := 0; i < len(s); {
		if strings.HasPrefix(s[i:], open) {
			depth, i = depth+1, i+len(open)
		} else if strings.HasPrefix(s[i:], end) {
			depth, i = depth-1, i+len(end)
		} else {
			i++
		}
		if depth == 0 {
			return i
		}
	}
	return -1
}

// naiveToken returns the kind and the length of the token at the front.
func naiveToken(keywords []string, s string) (int, int, api.Errno) {
	if s[0] == '"' && !patterns[String].MatchString(s) {
		return 0, 0, ErrString
	}
	kind, most := 0, 0
	id, dotted := patterns[Ident].FindString(s), patterns[Long].FindString(s)
	for _, w := range keywords {
		is := strings.HasPrefix(s, w)
		if patterns[Ident].MatchString(w) {
			is = is && id == w && len(dotted) <= len(w)
		}
		if is && len(w) > most {
			kind, most = Keyword, len(w)
		}
	}
	for k := Ident; k <= String; k++ {
		if n := len(patterns[k].FindString(s)); n > most {
			kind, most = k, n
		}
	}
	if strings.HasPrefix(s, `\<open>`) {
		kind, most = Quoted, naiveEnd(s, `\<open>`, `\<close>`)
		if most < 0 {
			return 0, 0, ErrString
		}
	}
	if most == 0 {
		return 0, 0, ErrByte
	}
	return kind, most, api.OK
}

func naiveScan(keywords []string, text string) ([]Token, int, api.Errno) {
	if e := Check(keywords); e != api.OK {
		return nil, 0, e
	}
	if len(text) > 40000 {
		return nil, 0, api.ErrLarge
	}
	var l []Token
	at := 0
	for {
		at += len(blanks.FindString(text[at:]))
		if at == len(text) {
			return l, 0, api.OK
		}
		if strings.HasPrefix(text[at:], "(*") {
			n := naiveEnd(text[at:], "(*", "*)")
			if n < 0 {
				return nil, at, ErrComment
			}
			at += n
			continue
		}
		k, n, e := naiveToken(keywords, text[at:])
		if e != api.OK {
			return nil, at, e
		}
		s := text[at : at+n]
		switch k {
		case String:
			s = regexp.MustCompile(`\\.`).ReplaceAllStringFunc(s[1:n-1], func(x string) string { return map[string]string{`\"`: `"`, `\\`: `\`, `\n`: "\n"}[x] })
		case Quoted:
			s = s[7 : n-8]
		}
		l = append(l, Token{k, s, at})
		at += n
	}
}

func naiveWrite(keywords []string, t Token) (string, api.Errno) {
	s := t.Text
	if t.Kind == String {
		s = `"` + regexp.MustCompile("[\"\\\\\n]").ReplaceAllStringFunc(s, func(x string) string { return map[string]string{`"`: `\"`, `\`: `\\`, "\n": `\n`}[x] }) + `"`
	}
	if t.Kind == Quoted {
		s = `\<open>` + s + `\<close>`
	}
	l, _, e := naiveScan(keywords, s)
	if e != api.OK || len(l) != 1 || l[0].Kind != t.Kind || l[0].Text != t.Text {
		return "", api.ErrForm
	}
	return s, api.OK
}

func same(a, b []Token) bool {
	return slices.EqualFunc(a, b, func(x, y Token) bool { return x.Kind == y.Kind && x.Text == y.Text })
}

func naiveJoin(keywords []string, l []Token) (string, api.Errno) {
	if len(l) > 1000 {
		return "", api.ErrCount
	}
	for _, t := range l {
		if _, e := naiveWrite(keywords, t); e != api.OK {
			return "", e
		}
	}
	text := ""
	for i, t := range l {
		s, _ := naiveWrite(keywords, t)
		if found, _, e := naiveScan(keywords, text+s); e != api.OK || !same(found, l[:i+1]) {
			text += " "
		}
		text += s
	}
	if len(text) > 40000 {
		return "", api.ErrLarge
	}
	return text, api.OK
}

// gen makes random keywords, texts and tokens.
type gen struct{ *rand.Rand }

func (g gen) pick(l ...string) string { return l[g.Intn(len(l))] }

func (g gen) keywords() []string {
	var l []string
	for range g.Intn(8) {
		w := g.pick("==>", "=>", "=", "==", "*", "**", "(", ")", ".", "begin", "a", "b'", "x", `\<and>`, `\<a>`, "%", ":", "::", "<", ">", "-->", "_")
		if !slices.Contains(l, w) {
			l = append(l, w)
		}
	}
	return l
}

func (g gen) text(n int) string {
	var b strings.Builder
	for range g.Intn(n) {
		b.WriteString(g.pick("a", "b", "x", "begin", "_", "'", "?", ".", "0", "17", "00", "=", "=", ">", ">", "<", "\\<", "\\<and>", `\<a>`, `\<open>`, `\<close>`, "(*", "*)", "(", ")", "*", "[", "{", ",", ";", `"`, `"`, `"x\"\\\n"`, `\"`, `\n`, `\`, "\n", " ", " ", "\t", "\r", "!", "~", ":", "::", "b'", "'a", "?a", "?'a", ".1", "\x00", "\xff", "é"))
	}
	return b.String()
}

// right is text, but nearly always without an error.
func (g gen) right(n int) string {
	var b strings.Builder
	for range g.Intn(n) {
		b.WriteString(g.pick("a", "b", "x", "begin", "_", "?x", "?'b'", "'x", ".", "0", "17", "00", "=", "=", ">", ">", "<", `\<and>`, `\<a>`, `\<open>`+g.text(4)+`\<close>`, `\<open>a \<open>"\<close> (*\<close>`, `\<close>`, "(* (**) *)", "(", ")", "*", "[", "{", ",", ";", `"x\"\\\n"`, `""`, "\n", " ", " ", "\t", "\r", "!", "~", ":", "::", "b'", " 'a", "?a.1", "?'a.22", ".1"))
	}
	return b.String()
}

func (g gen) token() Token {
	k := g.Intn(12)
	t := Token{Kind: k, At: g.Intn(3) - 1}
	switch g.Intn(5) {
	case 0:
		t.Text = g.text(4)
	case 1:
		t.Text = g.pick("a", "a.b", "'a", "?a", "?a.1", "?'a", "?'a.3", "7", "=", "(", "*", ".", `\<and>`, `x"\`+"\n", "==>", "begin")
	default:
		t.Text = map[int]string{Ident: g.pick("a", "b'", "begin", "_"), Long: g.pick("a.b", "a.b.c", "begin.x"), TypeVar: "'a", Schema: g.pick("?a", "?a.0", "?b.00"), SchemaT: g.pick("?'a", "?'a.1"), Number: g.pick("0", "17"), Symbol: g.pick("(", ")", "*", "=", ".", "==", `\<a>`, `\<close>`, ":"), String: g.text(3), Quoted: g.pick("", "a", " \n", `"`, `\<open>\<close>`, "(*"), Keyword: g.pick("=", "(", ".", "*", "a", "begin", `\<and>`, "x")}[k]
	}
	return t
}

func newRand(seed int) *rand.Rand { return rand.New(rand.NewSource(int64(seed))) }
