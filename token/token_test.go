package token

import (
	"fmt"
	"math"
	"slices"
	"strings"
	"testing"

	"triforium/api"
)

var short = map[int]string{Ident: "i", Long: "l", TypeVar: "t", Schema: "s", SchemaT: "v", Number: "n", Symbol: "y", String: "str", Quoted: "q", Keyword: "k"}

func show(l []Token) string {
	var out []string
	for _, t := range l {
		out = append(out, fmt.Sprintf("%s%d:%s", short[t.Kind], t.At, t.Text))
	}
	return strings.Join(out, " ")
}

func TestP141Check(t *testing.T) {
	long := strings.Repeat("a", 40)
	for i, c := range []struct {
		l []string
		e api.Errno
	}{
		{nil, api.OK}, {[]string{"a", "_", "x'", "A1", "==>", "!#$%&*+-/:<=>@^|~", "(", ")", "[", "]", "{", "}", ",", ";", ".", `\<and>`, `\<_x'>`, long, strings.Repeat("=", 40), `\<` + long[3:] + ">"}, api.OK},
		{[]string{""}, ErrKeyword}, {[]string{"1"}, ErrKeyword}, {[]string{"a.b"}, ErrKeyword}, {[]string{"'a"}, ErrKeyword}, {[]string{"?a"}, ErrKeyword}, {[]string{"a="}, ErrKeyword}, {[]string{"=("}, ErrKeyword}, {[]string{"(*"}, ErrKeyword}, {[]string{"()"}, ErrKeyword}, {[]string{".."}, ErrKeyword}, {[]string{" a"}, ErrKeyword}, {[]string{"a "}, ErrKeyword},
		{[]string{`\<and`}, ErrKeyword}, {[]string{`\<>`}, ErrKeyword}, {[]string{`\<a.b>`}, ErrKeyword}, {[]string{`\<and>>`}, ErrKeyword}, {[]string{`\`}, ErrKeyword}, {[]string{`"`}, ErrKeyword}, {[]string{"é"}, ErrKeyword},
		{[]string{`\<open>`}, ErrKeyword}, {[]string{`\<close>`}, ErrKeyword}, {[]string{`\<opens>`}, api.OK}, {[]string{long + "a"}, ErrKeyword}, {[]string{strings.Repeat("=", 41)}, ErrKeyword}, {[]string{`\<` + long + ">"}, ErrKeyword},
		{[]string{"a", "b", "a"}, api.ErrDuplicate}, {[]string{"a", "a", "1"}, api.ErrDuplicate}, {[]string{"a", "1", "a"}, ErrKeyword}, {[]string{"1", "1"}, ErrKeyword},
	} {
		if e := Check(c.l); e != c.e {
			t.Error(i, c.l, e)
		}
	}
	var l []string
	for i := range 500 {
		l = append(l, fmt.Sprint("k", i))
	}
	if e := Check(l); e != api.OK {
		t.Error(e)
	}
	if e := Check(append(l, "k0", "1")); e != api.ErrCount {
		t.Error("the limit is ahead of what they are", e)
	}
}

func TestP141Scan(t *testing.T) {
	words := []string{"==>", "=>", "begin", "a", ".", "(", `\<and>`, ">"}
	for i, c := range []struct{ text, want string }{
		{"", ""}, {" \t\r\n", ""}, {`A ==> ?x.1 "b"`, `i0:A k2:==> s6:?x.1 str11:b`}, {"=>>", "y0:=>>"}, {"=>", "k0:=>"}, {"==>=", "y0:==>="}, {"==> =", "k0:==> y4:="},
		{"begin begins begin' begin.x begin. x", "k0:begin i6:begins i13:begin' l20:begin.x k28:begin k33:. i35:x"}, {"a.b.c d.1 e..f", "l0:a.b.c i6:d k7:. n8:1 i10:e k11:. k12:. i13:f"}, {"a.a", "l0:a.a"},
		{"'a 'b' x'y", "t0:'a t3:'b' i7:x'y"}, {"?x ?x.12 ?x.y ?x.1.2 ?x. 1", "s0:?x s3:?x.12 s9:?x k11:. i12:y s14:?x.1 k18:. n19:2 s21:?x k23:. n25:1"}, {"?'a ?'a.0 ?'a.b", "v0:?'a v4:?'a.0 v10:?'a k13:. i14:b"},
		{"12ab 007", "n0:12 i2:ab n5:007"}, {"_1' Z9", "i0:_1' i4:Z9"},
		{"()[]{},;.", "k0:( y1:) y2:[ y3:] y4:{ y5:} y6:, y7:; k8:."}, {"!#$%&*+-/:<=>@^|~", "y0:!#$%&*+-/:<=>@^|~"},
		{`\<and>\<or>\<x_1'>x`, `k0:\<and> y6:\<or> y11:\<x_1'> i18:x`}, {`<\<and>>`, `y0:< k1:\<and> k7:>`},
		{`"" "a b" "\"\\\n" "(*" "\\<open>"`, `str0: str3:a b str9:"\` + "\n" + ` str18:(* str23:\<open>`}, {"\"\xff\x00\t\r\"", "str0:\xff\x00\t\r"},
		{`\<open>\<close>x`, `q0: i15:x`}, {`\<open> a\<open>"\<close>(* \<close>`, `q0: a\<open>"\<close>(* `}, {`\<close>`, `y0:\<close>`}, {`\<opens>`, `y0:\<opens>`}, {"\\<open>\n\xff\\\\<close>", "q0:\n\xff\\"},
		{"x(* c *)y", "i0:x i8:y"}, {"(**)", ""}, {"(*(*)*)*)x", "i9:x"}, {"(* (* *) *) a", "k12:a"}, {"(***)", ""}, {"( *", "k0:( y2:*"}, {"*)", "y0:* y1:)"}, {`(* " \<open> é*)x`, "i17:x"}, {"+(* *)+", "y0:+ y6:+"}, {"a(**).(**)b", "k0:a k5:. i10:b"}, {"[(**)=>(*)*)", "y0:[ k5:=>"},
	} {
		if l, at, e := Scan(words, c.text); e != api.OK || at != 0 || show(l) != c.want {
			t.Errorf("%d %q: %s, not %s; %d %d", i, c.text, show(l), c.want, at, e)
		}
	}
}

func TestP141ScanErrors(t *testing.T) {
	for i, c := range []struct {
		text string
		at   int
		e    api.Errno
	}{
		{"a `", 2, ErrByte}, {"é", 0, ErrByte}, {"a\x00", 1, ErrByte}, {"?", 0, ErrByte}, {"?1", 0, ErrByte}, {"? a", 0, ErrByte}, {"?'1", 0, ErrByte}, {"x '", 2, ErrByte}, {"'1", 0, ErrByte}, {`\`, 0, ErrByte}, {`\<`, 0, ErrByte}, {`\<a`, 0, ErrByte}, {`\<a.b>`, 0, ErrByte}, {`\<>`, 0, ErrByte}, {"x\v", 1, ErrByte}, {"x\f", 1, ErrByte},
		{`x "`, 2, ErrString}, {`"a`, 0, ErrString}, {"\"a\nb\"", 0, ErrString}, {`"a\"`, 0, ErrString}, {`"a\`, 0, ErrString}, {`"\t"`, 0, ErrString}, {` "a" "b`, 5, ErrString}, {`\<open>`, 0, ErrString}, {`x\<open>a\<open>b\<close>`, 1, ErrString},
		{"(*", 0, ErrComment}, {"a (* (* *)", 2, ErrComment}, {"(*)", 0, ErrComment}, {"(*(*)*)", 0, ErrComment}, {"(* *) (*", 6, ErrComment},
		{"\" ` (*", 0, ErrString}, {"` \" (*", 0, ErrByte}, {`(* " `, 0, ErrComment},
	} {
		if l, at, e := Scan(nil, c.text); e != c.e || at != c.at || l != nil {
			t.Errorf("%d %q: %d %d", i, c.text, at, e)
		}
	}
	if _, at, e := Scan([]string{"1"}, "  `"); e != ErrKeyword || at != 0 {
		t.Error(e, at)
	}
	if _, at, e := Scan([]string{"1"}, strings.Repeat("`", 40001)); e != ErrKeyword || at != 0 {
		t.Error(e, at)
	}
	if _, at, e := Scan(nil, strings.Repeat("`", 40001)); e != api.ErrLarge || at != 0 {
		t.Error(e, at)
	}
	if l, _, e := Scan(nil, strings.Repeat("a ", 20000)); e != api.OK || len(l) != 20000 {
		t.Error(e)
	}
	if _, at, e := Scan(nil, strings.Repeat(" ", 39998)+`""`); e != api.OK || at != 0 {
		t.Error(e)
	}
	if _, at, e := Scan(nil, strings.Repeat("(*", 20000)); e != ErrComment || at != 0 {
		t.Error(e)
	}
}

func TestP141Write(t *testing.T) {
	words := []string{"=>", "begin", "."}
	for i, c := range []struct {
		t    Token
		want string
		e    api.Errno
	}{
		{Token{Ident, "a", 7}, "a", api.OK}, {Token{Ident, "begin", 0}, "", api.ErrForm}, {Token{Keyword, "begin", -1}, "begin", api.OK}, {Token{Keyword, "a", 0}, "", api.ErrForm}, {Token{Long, "begin.x", 0}, "begin.x", api.OK}, {Token{Ident, "a.b", 0}, "", api.ErrForm}, {Token{Long, "a", 0}, "", api.ErrForm},
		{Token{String, "a\"\\\n", 0}, `"a\"\\\n"`, api.OK}, {Token{String, "", 0}, `""`, api.OK}, {Token{String, "\xff", 0}, "\"\xff\"", api.OK}, {Token{Quoted, "", 0}, `\<open>\<close>`, api.OK}, {Token{Quoted, `a\<open>b\<close>`, 0}, `\<open>a\<open>b\<close>\<close>`, api.OK},
		{Token{Quoted, `a\<close>`, 0}, "", api.ErrForm}, {Token{Quoted, `a\<open>`, 0}, "", api.ErrForm}, {Token{Quoted, `a\<close>\<open>b`, 0}, "", api.ErrForm}, {Token{Quoted, `\<close> \<open>`, 0}, "", api.ErrForm},
		{Token{Ident, " a", 0}, "", api.ErrForm}, {Token{Ident, "a ", 0}, "", api.ErrForm}, {Token{Ident, "a(**)", 0}, "", api.ErrForm}, {Token{Ident, "a b", 0}, "", api.ErrForm}, {Token{Ident, "", 0}, "", api.ErrForm}, {Token{}, "", api.ErrForm}, {Token{11, "a", 0}, "", api.ErrForm}, {Token{-1, "a", 0}, "", api.ErrForm}, {Token{math.MaxInt, "=", math.MinInt}, "", api.ErrForm},
		{Token{Symbol, "=>", 0}, "", api.ErrForm}, {Token{Symbol, "=", 0}, "=", api.OK}, {Token{Symbol, `\<close>`, 0}, `\<close>`, api.OK}, {Token{Symbol, `\<open>`, 0}, "", api.ErrForm}, {Token{Symbol, "`", 0}, "", api.ErrForm}, {Token{Symbol, "(*", 0}, "", api.ErrForm},
		{Token{Number, "07", 0}, "07", api.OK}, {Token{Number, "-7", 0}, "", api.ErrForm}, {Token{Schema, "?x.7", 0}, "?x.7", api.OK}, {Token{Schema, "?x.", 0}, "", api.ErrForm}, {Token{SchemaT, "?'x", 0}, "?'x", api.OK}, {Token{TypeVar, "'x", 0}, "'x", api.OK},
		{Token{String, strings.Repeat("a", 39998), 0}, `"` + strings.Repeat("a", 39998) + `"`, api.OK}, {Token{String, strings.Repeat("a", 39999), 0}, "", api.ErrForm}, {Token{String, strings.Repeat("\n", 20000), 0}, "", api.ErrForm}, {Token{Ident, strings.Repeat("a", 40001), 0}, "", api.ErrForm},
	} {
		if s, e := Write(words, c.t); s != c.want || e != c.e {
			t.Errorf("%d %.50q %d", i, s, e)
		}
	}
	if s, e := Write([]string{"a", "a"}, Token{}); s != "" || e != api.ErrDuplicate {
		t.Error(s, e)
	}
}

func TestP141Join(t *testing.T) {
	words := []string{"=>", "begin"}
	at := func(kind int, l ...string) []Token {
		var out []Token
		for _, s := range l {
			out = append(out, Token{kind, s, 5})
		}
		return out
	}
	for i, c := range []struct {
		l    []Token
		want string
		e    api.Errno
	}{
		{nil, "", api.OK}, {at(Ident, "a", "b"), "a b", api.OK}, {slices.Concat(at(Ident, "a"), at(Symbol, "."), at(Ident, "b")), "a. b", api.OK}, {slices.Concat(at(Ident, "a"), at(Symbol, ".", "."), at(Ident, "b")), "a..b", api.OK}, {slices.Concat(at(Long, "a.b"), at(Symbol, "."), at(Keyword, "begin")), "a.b. begin", api.OK},
		{slices.Concat(at(Schema, "?x"), at(Symbol, "."), at(Number, "1")), "?x. 1", api.OK}, {slices.Concat(at(Schema, "?x.1"), at(Number, "1")), "?x.1 1", api.OK}, {slices.Concat(at(Schema, "?x"), at(Number, "1")), "?x 1", api.OK}, {at(Symbol, "(", "*"), "( *", api.OK}, {at(Symbol, "(", "(", "*", ")"), "(( *)", api.OK}, {at(Symbol, "=", "="), "= =", api.OK},
		{slices.Concat(at(Keyword, "=>"), at(Symbol, "<")), "=> <", api.OK}, {slices.Concat(at(Symbol, "="), at(Symbol, ">")), "= >", api.OK}, {slices.Concat(at(Number, "1"), at(Ident, "a"), at(TypeVar, "'b"), at(String, "x", ""), at(Quoted, "y"), at(Symbol, `\<and>`), at(SchemaT, "?'a")), `1a 'b"x"""\<open>y\<close>\<and>?'a`, api.OK},
		{slices.Concat(at(Ident, "a"), at(Ident, "begin")), "", api.ErrForm}, {slices.Repeat(at(Symbol, "("), 1000), strings.Repeat("(", 1000), api.OK}, {slices.Repeat(at(Ident, ""), 1001), "", api.ErrCount}, {slices.Repeat(at(Symbol, "("), 1001), "", api.ErrCount},
		{at(String, strings.Repeat("a", 19998), strings.Repeat("b", 19998)), `"` + strings.Repeat("a", 19998) + `""` + strings.Repeat("b", 19998) + `"`, api.OK}, {at(String, strings.Repeat("a", 19998), strings.Repeat("b", 19999)), "", api.ErrLarge}, {at(Ident, strings.Repeat("a", 20000), strings.Repeat("b", 20000)), "", api.ErrLarge}, {at(Ident, strings.Repeat("a", 20000), strings.Repeat("b", 20000), "1"), "", api.ErrForm},
		{slices.Repeat(at(Ident, strings.Repeat("a", 39)), 1000), strings.TrimSpace(strings.Repeat(strings.Repeat("a", 39)+" ", 1000)), api.OK}, {slices.Repeat(at(Ident, strings.Repeat("a", 40)), 1000), "", api.ErrLarge},
	} {
		if s, e := Join(words, c.l); s != c.want || e != c.e {
			t.Errorf("%d %.50q %d", i, s, e)
		}
	}
	if s, e := Join([]string{""}, slices.Repeat(at(Ident, "a"), 1001)); s != "" || e != ErrKeyword {
		t.Error(s, e)
	}
}

func TestP141Random(t *testing.T) {
	for seed := range 30000 {
		g := gen{newRand(seed)}
		words := g.keywords()
		text := g.text(12)
		l, at, e := Scan(words, text)
		m, at2, e2 := naiveScan(words, text)
		if e != e2 || at != at2 || !slices.Equal(l, m) {
			t.Fatalf("%d %q %q: %s %d %d, not %s %d %d", seed, words, text, show(l), at, e, show(m), at2, e2)
		}
		k := g.token()
		s, e := Write(words, k)
		if s2, e2 := naiveWrite(words, k); s != s2 || e != e2 {
			t.Fatalf("%d %q %v: %q %d, not %q %d", seed, words, k, s, e, s2, e2)
		}
	}
}

func TestP141RandomJoin(t *testing.T) {
	good := 0
	for seed := range 10000 {
		g := gen{newRand(seed)}
		words := g.keywords()
		var l []Token
		for range g.Intn(10) {
			k := g.token()
			if _, e := Write(words, k); e == api.OK || g.Intn(50) == 0 {
				l = append(l, k)
			}
		}
		s, e := Join(words, l)
		if s2, e2 := naiveJoin(words, l); s != s2 || e != e2 {
			t.Fatalf("%d %q %v: %q %d, not %q %d", seed, words, l, s, e, s2, e2)
		}
		if e == api.OK && len(l) > 3 {
			good++
		}
	}
	if good < 1000 {
		t.Error(good)
	}
}

// Scan of Join is the tokens; Join of Scan is not longer than the tokens with spaces.
func TestP142Back(t *testing.T) {
	good := 0
	for seed := range 20000 {
		g := gen{newRand(seed)}
		words := g.keywords()
		text := g.right(14)
		l, _, e := Scan(words, text)
		if e != api.OK || len(l) > 1000 {
			continue
		}
		good++
		s, e := Join(words, l)
		back, _, e2 := Scan(words, s)
		if e != api.OK || e2 != api.OK || !same(back, l) {
			t.Fatalf("%d %q %q %q", seed, words, text, s)
		}
		most := max(0, len(l)-1)
		for i, k := range l {
			end := len(text)
			if i+1 < len(l) {
				end = l[i+1].At
			}
			w, _ := Write(words, k)
			if !strings.HasPrefix(text[k.At:end], w) {
				t.Fatalf("%d %q %q", seed, text, w)
			}
			most += len(w)
		}
		if len(s) > most {
			t.Fatalf("%d %q %q", seed, text, s)
		}
	}
	if good < 5000 {
		t.Error(good)
	}
}

// Tokens ascend by their places, at which their texts stand; between them there are spaces and comments alone.
func TestP143Places(t *testing.T) {
	for seed := range 20000 {
		g := gen{newRand(seed)}
		words, text := g.keywords(), g.right(14)
		l, _, e := Scan(words, text)
		if e != api.OK {
			continue
		}
		end := 0
		for _, k := range l {
			w, e := Write(words, k)
			if e != api.OK || k.At < end || !strings.HasPrefix(text[k.At:], w) {
				t.Fatalf("%d %q %v", seed, text, k)
			}
			if m, _, e := Scan(words, text[end:k.At]); e != api.OK || len(m) != 0 {
				t.Fatalf("%d %q %v", seed, text, m)
			}
			end = k.At + len(w)
		}
		if m, _, e := Scan(words, text[end:]); e != api.OK || len(m) != 0 {
			t.Fatalf("%d %q %v", seed, text, m)
		}
	}
}

func TestP144Parts(t *testing.T) {
	for seed := range 20000 {
		g := gen{newRand(seed)}
		words, a, b := g.keywords(), g.right(8), g.right(8)
		if g.Intn(4) == 0 {
			b = g.text(8)
		}
		l, _, e := Scan(words, a)
		if e != api.OK {
			continue
		}
		m, at, e := Scan(words, b)
		both, at2, e2 := Scan(words, a+"\n"+b)
		if e != e2 || e != api.OK && at2 != at+len(a)+1 {
			t.Fatalf("%d %q %q: %d %d, %d %d", seed, a, b, at, e, at2, e2)
		}
		for i := range m {
			m[i].At += len(a) + 1
		}
		if e == api.OK && !slices.Equal(both, slices.Concat(l, m)) {
			t.Fatalf("%d %q %q", seed, a, b)
		}
	}
}

func TestP141Symbols(t *testing.T) {
	for i, c := range []struct{ plain, symbols string }{
		{"A ==> B", `A \<Longrightarrow> B`}, {"-->", `\<longrightarrow>`}, {"x == y", `x \<equiv> y`}, {"a => b", `a \<Rightarrow> b`}, {"!!x. %y. !z", `\<And>x. \<lambda>y. \<forall>z`}, {"a & b | ~c", `a \<and> b \<or> \<not>c`},
		{"===>", `\<equiv>\<Rightarrow>`}, {"====>", `\<equiv>\<Longrightarrow>`}, {"!!!", `\<And>\<forall>`}, {"=", "="}, {"--->", `-\<longrightarrow>`}, {"", ""}, {"\xff= >", "\xff= >"},
	} {
		if s := Symbols(c.plain); s != c.symbols {
			t.Error(i, s)
		}
		if s := Plain(c.symbols); s != c.plain {
			t.Error(i, s)
		}
	}
	for i, c := range [][2]string{{`\<and>\<x>\<forall>`, `&\<x>!`}, {`\<an\<and>d>`, `\<an&d>`}, {`"\<or>" (* \<not> *)`, `"|" (* ~ *)`}, {`\<Long\<equiv>`, `\<Long==`}} {
		if s := Plain(c[0]); s != c[1] {
			t.Error(i, s)
		}
	}
	if s := Symbols(`"&" (*|*) \<and>`); s != `"\<and>" (*\<or>*) \<and>` {
		t.Error(s)
	}
}

func TestP145Symbols(t *testing.T) {
	for seed := range 30000 {
		g := gen{newRand(seed)}
		text := g.text(10)
		for range g.Intn(12) {
			text += g.pick("=", ">", "-", "!", "%", "&", "|", "~", `\`, "<", `\<`, "and", "or", "equiv", "Long", "right", "arrow", "forall", `\<and>`, `\<equiv>`, "x")
		}
		if a, b := Plain(Symbols(text)), Plain(text); a != b {
			t.Fatalf("%q: %q %q", text, a, b)
		}
	}
}
