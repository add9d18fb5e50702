package outer

import (
	"fmt"
	"math"
	"slices"
	"strings"
	"testing"

	"triforium/api"
	"triforium/token"
)

func show(c Command) string {
	out := fmt.Sprintf("%d:%s", c.At, c.Word)
	for _, p := range c.Parts {
		out += fmt.Sprintf(" %s%d:%s", "-ntdsm"[p.Kind:p.Kind+1], p.At, p.Text)
		if p.Kind == Num {
			out += fmt.Sprint(p.Num)
		}
	}
	return out
}

func TestP181Words(t *testing.T) {
	w, s := Words(), Signs()
	if strings.Join(w, " ") != "also arity assume axiom by case classes consts datatype declare definition end finally fix from fun have inductive lemma moreover next notation note obtain proof qed show then theory typedecl ultimately" || !slices.IsSorted(w) {
		t.Error(w)
	}
	if strings.Join(s, " ") != ": :: = begin imports where" || !slices.IsSorted(s) {
		t.Error(s)
	}
	w[0], s[0] = "x", "x"
	if Words()[0] != "also" || Signs()[0] != ":" {
		t.Error("shared memory")
	}
	if token.Check(slices.Concat(Words(), Signs())) != api.OK {
		t.Error("keywords")
	}
}

func TestP181Read(t *testing.T) {
	for i, c := range []struct {
		text, want string
		at         int
	}{
		{`fix x :: "nat" y`, "0:fix n4:x s6::: t9:nat n15:y", 0}, {" (* c *) also ", "9:also", 0}, {"also a", "", 5}, {`assume "a" "b"`, "0:assume t7:a t11:b", 0}, {`assume l: "a"`, "0:assume n7:l s8:: t10:a", 0}, {"assume l:", "", 9}, {"assume", "", 6}, {`assume l "a"`, "", 9},
		{"arity a b", "0:arity n6:a n8:b", 0}, {`arity a b "c" \<open>d\<close>`, "0:arity n6:a n8:b t10:c t14:d", 0}, {"arity a", "", 7}, {"arity a b c", "", 10},
		{`axiom a.b: "x"`, "0:axiom n6:a.b s9:: t11:x", 0}, {`definition a "x"`, "", 13}, {`lemma : "x"`, "", 6}, {`lemma a: "x" "y"`, "", 13},
		{"by this", "0:by m3:this", 0}, {"by (rule a | simp) (* c *)", "0:by m3:(rule a | simp)", 0}, {`proof induct a "$n:nat"  `, `0:proof m6:induct a "$n:nat"`, 0}, {`by a (* c *) \<open>x\<close> `, `0:by m3:a (* c *) \<open>x\<close>`, 0}, {"by", "", 2}, {"by (* c *)", "", 10}, {"by a have", "", 5}, {"by where : =", "0:by m3:where : =", 0}, {"proof qed", "", 6},
		{"qed", "0:qed", 0}, {"qed this", "0:qed m4:this", 0}, {"qed qed", "", 4}, {"case a", "0:case n5:a", 0}, {"case a b c.d", "0:case n5:a n7:b n9:c.d", 0}, {"case", "", 4}, {"classes c d", "0:classes n8:c n10:d", 0}, {`case a "b"`, "", 7},
		{`consts c :: "t"`, "0:consts n7:c s9::: t12:t", 0}, {`consts c : "t"`, "", 9}, {`datatype "t" "c"`, "0:datatype t9:t t13:c", 0}, {"datatype t", "", 9}, {"datatype", "", 8}, {"declare a", "0:declare n8:a", 0}, {"declare a b", "", 10}, {"fix", "", 3}, {"fix x ::", "", 8}, {"fix x :: y", "", 9}, {`fix x "t"`, "", 6},
		{"from a b", "0:from n5:a n7:b", 0}, {"from", "", 4}, {"from begin", "", 5}, {`fun f :: "t" where "a" "b"`, "0:fun n4:f s6::: t9:t s13:where t19:a t23:b", 0}, {`inductive f :: "t" where`, "", 24}, {`fun f :: "t" "a"`, "", 13},
		{`have "a"`, "0:have t5:a", 0}, {`show l: "a"`, "0:show n5:l s6:: t8:a", 0}, {`have "a" "b"`, "", 9}, {"have a", "", 6}, {`have : "a"`, "", 5},
		{`notation c infix "+" 65`, "0:notation n9:c n11:infix t17:+ d21:65", 0}, {`notation c mixfix "" "+" 0 1 1234567`, "0:notation n9:c n11:mixfix t18: t21:+ d25:0 d27:1 d29:1234567", 0}, {`notation c infix "+" 065`, "", 21}, {`notation c infix "+" 12345678`, "", 21}, {`notation c infix "+" 1 00`, "", 23}, {`notation c infix "+" 0 "-"`, "", 23}, {`notation c infix 65`, "", 17}, {`notation c infix "+"`, "", 20},
		{"note a = b c", "0:note n5:a s7:= n9:b n11:c", 0}, {"note a =", "", 8}, {"note a : b", "", 7}, {`obtain x where "a"`, "0:obtain n7:x s9:where t15:a", 0}, {`obtain x :: "t" y where l: "a" "b"`, "0:obtain n7:x s9::: t12:t n16:y s18:where n24:l s25:: t27:a t31:b", 0}, {`obtain where "a"`, "", 7}, {"obtain x y where", "", 16}, {`obtain x "a"`, "", 9},
		{"theory T imports A B begin", "0:theory n7:T s9:imports n17:A n19:B s21:begin", 0}, {"theory T imports begin", "", 17}, {"theory T imports A", "", 18}, {"theory T begin", "", 9}, {"theory T imports A begin end", "", 25}, {"typedecl t 2", "0:typedecl n9:t d11:2", 0}, {"typedecl t", "", 10}, {"typedecl t -1", "", 11},
		{"", "", 0}, {"  ", "", 2}, {"(* a *)", "", 7}, {"a", "", 0}, {" 3 by", "", 1}, {": fix", "", 0}, {"begin", "", 0}, {"end end", "", 4},
	} {
		got, at, e := Read(c.text)
		if c.want != "" {
			if e != api.OK || at != 0 || show(got) != c.want {
				t.Error(i, c.text, show(got), at, e)
			}
			continue
		}
		if e != ErrCommand || at != c.at || got.Word != "" || got.Parts != nil || got.At != 0 {
			t.Error(i, c.text, show(got), at, e)
		}
	}
	for i, c := range []struct {
		text string
		at   int
		e    api.Errno
	}{{"have `", 5, token.ErrByte}, {`have "`, 5, token.ErrString}, {"x (*", 2, token.ErrComment}, {strings.Repeat(" ", 40001), 0, api.ErrLarge}, {"by " + strings.Repeat("a", 39997), 0, api.OK}} {
		if _, at, e := Read(c.text); at != c.at || e != c.e {
			t.Error(i, at, e)
		}
	}
}

func TestP181Commands(t *testing.T) {
	for i, c := range []struct {
		text, want string
		at         int
		e          api.Errno
	}{
		{"", "", 0, api.OK}, {" (* c *)\n", "", 0, api.OK}, {` (* c *) have a: "x" by this  end `, "9:have n14:a s15:: t17:x|21:by m24:this|30:end", 0, api.OK},
		{`x have "a"`, "", 0, ErrCommand}, {` (**) : have "a"`, "", 6, ErrCommand}, {`have "a" by  end`, "", 13, ErrCommand}, {`have "a" end x fix`, "", 13, ErrCommand}, {`have "a" fix`, "", 12, ErrCommand}, {"fix fix x y `", "", 12, token.ErrByte}, {`fix "`, "", 4, token.ErrString}, {strings.Repeat("x", 40001), "", 0, api.ErrLarge},
	} {
		l, at, e := Commands(c.text)
		var out []string
		for _, k := range l {
			out = append(out, show(k))
		}
		if strings.Join(out, "|") != c.want || at != c.at || e != c.e {
			t.Error(i, out, at, e)
		}
	}
}

func TestP181Spans(t *testing.T) {
	for i, c := range []struct{ text, want string }{
		{"", "[]"}, {" ", "[{ 0 1}]"}, {`have a: "x = x" by this`, "[{have 0 16} {by 16 23}]"}, {"\n(* have *) have", "[{ 0 12} {have 12 16}]"}, {"endend end.x end", "[{ 0 13} {end 13 16}]"}, {`"have" have`, "[{ 0 7} {have 7 11}]"},
		{`"have`, "[{ 0 1} {have 1 5}]"}, {"(* have", "[{ 0 3} {have 3 7}]"}, {"\\<open>have\\<close>\\<open> end", "[{ 0 27} {end 27 30}]"}, {"`have`\xffby?end", "[{ 0 1} {have 1 7} {by 7 13}]"}, {"?have ? have", "[{ 0 8} {have 8 12}]"}, {"\"a\nhave\" by", "[{ 0 3} {have 3 9} {by 9 11}]"}, {"have(*)end", "[{have 0 7} {end 7 10}]"}, {"x.have have.x have .by", "[{ 0 14} {have 14 20} {by 20 22}]"},
		{strings.Repeat("by ", 13333) + "x", ""}, {strings.Repeat("by ", 13334), "[{ 0 40002}]"},
	} {
		if s := fmt.Sprint(Spans(c.text)); s != c.want && c.want != "" {
			t.Error(i, s)
		}
	}
	if l := Spans(strings.Repeat("by ", 13333)); len(l) != 13333 {
		t.Error(len(l))
	}
}

func TestP181Write(t *testing.T) {
	name, text, num := func(s string) Part { return Part{Kind: Name, Text: s, At: 7} }, func(s string) Part { return Part{Kind: Text, Text: s} }, func(n int) Part { return Part{Kind: Num, Num: n} }
	sign, method := func(s string) Part { return Part{Kind: Sign, Text: s} }, func(s string) Part { return Part{Kind: Method, Text: s} }
	for i, c := range []struct {
		word  string
		parts []Part
		want  string
		e     api.Errno
	}{
		{"also", nil, "also", api.OK}, {"fix", []Part{name("x"), sign("::"), text("a\"\\\n"), name("y.z")}, `fix x :: "a\"\\\n" y.z`, api.OK}, {"typedecl", []Part{name("t"), num(12)}, "typedecl t 12", api.OK}, {"by", []Part{method(`a (* c *) "b"`)}, `by a (* c *) "b"`, api.OK}, {"qed", nil, "qed", api.OK}, {"lemma", []Part{name("a"), sign(":"), text("")}, `lemma a : ""`, api.OK},
		{"", nil, "", ErrCommand}, {"x", nil, "", ErrCommand}, {"also ", nil, "", ErrCommand}, {"also", []Part{name("x")}, "", ErrCommand}, {"fix", nil, "", ErrCommand}, {"fix", []Part{name("have")}, "", ErrCommand}, {"fix", []Part{name("x y")}, "", ErrCommand}, {"fix", []Part{{Kind: Name, Text: "x", Num: 1}}, "", ErrCommand}, {"fix", []Part{sign("x")}, "", ErrCommand}, {"fix", []Part{{Kind: 0, Text: "x"}}, "", ErrCommand}, {"fix", []Part{{Kind: 6, Text: "x"}}, "", ErrCommand}, {"fix", []Part{{Kind: math.MinInt}}, "", ErrCommand},
		{"typedecl", []Part{name("t"), num(-1)}, "", ErrCommand}, {"typedecl", []Part{name("t"), num(10000000)}, "", ErrCommand}, {"typedecl", []Part{name("t"), {Kind: Num, Num: 1, Text: "1"}}, "", ErrCommand}, {"typedecl", []Part{name("t"), num(9999999)}, "typedecl t 9999999", api.OK},
		{"by", nil, "", ErrCommand}, {"by", []Part{method("")}, "", ErrCommand}, {"by", []Part{method(" a")}, "", ErrCommand}, {"by", []Part{method("a ")}, "", ErrCommand}, {"by", []Part{method("a(**)")}, "", ErrCommand}, {"by", []Part{method("a"), method("b")}, "", ErrCommand}, {"by", []Part{name("a")}, "", ErrCommand}, {"by", []Part{method("a have")}, "", ErrCommand}, {"by", []Part{method("`")}, "", ErrCommand}, {"by", []Part{method(`"x`)}, "", ErrCommand},
		{"have", []Part{text(strings.Repeat("a", 39993))}, `have "` + strings.Repeat("a", 39993) + `"`, api.OK}, {"have", []Part{text(strings.Repeat("a", 39994))}, "", ErrCommand}, {"have", []Part{text(strings.Repeat("\n", 30000))}, "", ErrCommand},
		{"from", slices.Repeat([]Part{name("a")}, 1000), "from" + strings.Repeat(" a", 1000), api.OK}, {"from", slices.Repeat([]Part{name("a")}, 1001), "", api.ErrCount}, {"", slices.Repeat([]Part{{}}, 1001), "", api.ErrCount},
	} {
		if s, e := Write(Command{c.word, 5, c.parts}); s != c.want || e != c.e {
			t.Errorf("%d %.60q %d", i, s, e)
		}
	}
}

func TestP181Edited(t *testing.T) {
	text := "x\nhave a by b end"
	old := Spans(text)
	for i, c := range []struct {
		at, removed int
		inserted    string
		want        string
		new         int
		e           api.Errno
	}{
		{0, 0, "", "[{ 0 2} {have 2 9} {by 9 14} {end 14 17}]", 0, api.OK}, {9, 0, "", "[{ 0 2} {have 2 9} {by 9 14} {end 14 17}]", 0, api.OK}, {10, 0, "", "[{ 0 2} {have 2 9} {by 9 14} {end 14 17}]", 1, api.OK}, {17, 0, "", "[{ 0 2} {have 2 9} {by 9 14} {end 14 17}]", 0, api.OK},
		{7, 1, "abc", "[{ 0 2} {have 2 11} {by 11 16} {end 16 19}]", 1, api.OK}, {9, 5, "", "[{ 0 2} {have 2 9} {end 9 12}]", 0, api.OK}, {9, 0, "fix ", "[{ 0 2} {have 2 9} {fix 9 13} {by 13 18} {end 18 21}]", 1, api.OK}, {17, 0, " ", "[{ 0 2} {have 2 9} {by 9 14} {end 14 18}]", 1, api.OK}, {0, 0, "end ", "[{end 0 6} {have 6 13} {by 13 18} {end 18 21}]", 1, api.OK}, {0, 2, "", "[{have 0 7} {by 7 12} {end 12 15}]", 0, api.OK}, {0, 17, "", "[]", 0, api.OK},
		{8, 1, "", "[{ 0 2} {have 2 13} {end 13 16}]", 1, api.OK}, {7, 1, `"`, "[{ 0 2} {have 2 9} {by 9 14} {end 14 17}]", 1, api.OK}, {2, 12, "have a by b end ", "[{ 0 2} {have 2 9} {by 9 14} {end 14 18} {end 18 21}]", 3, api.OK},
		{-1, 0, "", "[]", 0, api.ErrRange}, {0, -1, "", "[]", 0, api.ErrRange}, {0, 18, "", "[]", 0, api.ErrRange}, {18, 0, "", "[]", 0, api.ErrRange}, {1, math.MaxInt, "", "[]", 0, api.ErrRange}, {math.MaxInt, math.MaxInt, "", "[]", 0, api.ErrRange}, {math.MinInt, math.MinInt, "", "[]", 0, api.ErrRange}, {17, 0, strings.Repeat(" ", 39983), "[{ 0 2} {have 2 9} {by 9 14} {end 14 40000}]", 1, api.OK}, {17, 0, strings.Repeat(" ", 39984), "[]", 0, api.ErrLarge}, {0, 17, strings.Repeat(" ", 40000), "[{ 0 40000}]", 1, api.OK},
	} {
		l, n, e := Edited(old, text, c.at, c.removed, c.inserted)
		if fmt.Sprint(l) != c.want || n != c.new || e != c.e {
			t.Error(i, l, n, e)
		}
	}
	for i, l := range [][]Span{nil, old[1:], append(slices.Clone(old), Span{}), {{"", 0, 17}}} {
		if _, n, e := Edited(l, text, 0, 0, ""); e != api.ErrArgument || n != 0 {
			t.Error(i, e)
		}
	}
	long := strings.Repeat(" ", 40001)
	for i, c := range []struct {
		text        string
		at, removed int
		inserted    string
		e           api.Errno
	}{{long, -1, 0, "", api.ErrLarge}, {"", -1, 0, long, api.ErrRange}, {"", 0, 0, long, api.ErrLarge}, {"", 0, 0, "x", api.ErrArgument}} {
		if l, n, e := Edited([]Span{{}}, c.text, c.at, c.removed, c.inserted); e != c.e || n != 0 || l != nil {
			t.Error(i, e)
		}
	}
}

func TestP181Random(t *testing.T) {
	right := 0
	for seed := range 12000 {
		g := newGen(seed)
		text := g.text(8)
		if seed%3 > 0 {
			text = g.command(Words()[g.Intn(31)])
		}
		if seed%50 == 0 {
			text = g.garbage(8)
		}
		c, at, e := Read(text)
		d, at2, e2 := naiveRead(text)
		if show(c) != show(d) || at != at2 || e != e2 {
			t.Fatalf("%d %q: %s %d %d, not %s %d %d", seed, text, show(c), at, e, show(d), at2, e2)
		}
		if e == api.OK {
			right++
		}
	}
	if right < 4000 {
		t.Error(right)
	}
}

// Spans stand one behind the other, and are the whole text, whatever it is.
func TestP182Whole(t *testing.T) {
	for seed := range 15000 {
		g := newGen(seed)
		text := g.garbage(16)
		l := Spans(text)
		if !slices.Equal(l, naiveSpans(text)) {
			t.Fatalf("%d %q %v", seed, text, l)
		}
		at := 0
		for i, s := range l {
			if s.At != at || s.To <= s.At || !strings.HasPrefix(text[s.At:], s.Word) || s.Word == "" && i > 0 {
				t.Fatalf("%d %q %v", seed, text, l)
			}
			at = s.To
		}
		if at != len(text) {
			t.Fatalf("%d %q %v", seed, text, l)
		}
	}
}

func TestP183Back(t *testing.T) {
	for seed := range 8000 {
		g := newGen(seed)
		c, _, e := Read(g.command(Words()[g.Intn(31)]))
		if e != api.OK {
			continue
		}
		s, e := Write(c)
		back, _, e2 := Read(s)
		same := func(a, b Part) bool { return a.Kind == b.Kind && a.Text == b.Text && a.Num == b.Num }
		if e != api.OK || e2 != api.OK || back.Word != c.Word || !slices.EqualFunc(back.Parts, c.Parts, same) {
			t.Fatalf("%d %q %q", seed, show(c), s)
		}
	}
}

// The commands of two texts with a line feed between them are those of both.
func TestP184Joined(t *testing.T) {
	for seed := range 6000 {
		g := newGen(seed)
		texts := [2]string{}
		for i := range texts {
			for range g.Intn(4) {
				texts[i] += g.command(Words()[g.Intn(31)]) + " "
			}
		}
		a, _, e := Commands(texts[0])
		b, at, e2 := Commands(texts[1])
		both, at3, e3 := Commands(texts[0] + "\n" + texts[1])
		if e != api.OK {
			continue
		}
		moved := len(texts[0]) + 1
		if e2 != e3 || e2 != api.OK && at+moved != at3 {
			t.Fatalf("%d %q: %d %d, %d %d", seed, texts, at, e2, at3, e3)
		}
		for i := range b {
			b[i].At += moved
			for k := range b[i].Parts {
				b[i].Parts[k].At += moved
			}
		}
		if e2 == api.OK && fmt.Sprint(both) != fmt.Sprint(slices.Concat(a, b)) {
			t.Fatalf("%d %q", seed, texts)
		}
	}
}

// Each command of a text is what Read makes of its span.
func TestP184Spans(t *testing.T) {
	for seed := range 4000 {
		g := newGen(seed)
		text := g.pick("", " ", "(* x *)", "x ")
		for range g.Intn(4) {
			text += g.command(Words()[g.Intn(31)]) + " "
		}
		l, at, e := Commands(text)
		var want []string
		wantAt, wantE := 0, api.OK
		for _, s := range Spans(text) {
			k, _, _ := token.Scan(nil, text[s.At:s.To])
			if s.Word == "" && len(k) == 0 {
				continue
			}
			c, at, e := Read(text[s.At:s.To])
			if e != api.OK {
				want, wantAt, wantE = nil, s.At+at, e
				break
			}
			c.At += s.At
			for i := range c.Parts {
				c.Parts[i].At += s.At
			}
			want = append(want, show(c))
		}
		var got []string
		for _, c := range l {
			got = append(got, show(c))
		}
		if !slices.Equal(got, want) || at != wantAt || e != wantE {
			t.Fatalf("%d %q: %q %d %d, %q %d %d", seed, text, got, at, e, want, wantAt, wantE)
		}
	}
}

// Edited is Spans of the changed text; if nothing is changed, no span is new but the one inside of which the place is.
func TestP185Edits(t *testing.T) {
	for seed := range 15000 {
		g := newGen(seed)
		text := g.garbage(14)
		old := Spans(text)
		at := g.Intn(len(text) + 1)
		removed := g.Intn(len(text) - at + 1)
		inserted := g.garbage(4)
		l, n, e := Edited(old, text, at, removed, inserted)
		now := text[:at] + inserted + text[at+removed:]
		if e != api.OK || !slices.Equal(l, Spans(now)) || n != naiveNew(old, l, at, removed, len(inserted)) {
			t.Fatalf("%d %q %d %d %q: %v %d %d", seed, text, at, removed, inserted, l, n, e)
		}
		_, n, _ = Edited(old, text, at, 0, "")
		inside := 0
		for _, s := range old {
			if s.At < at && at < s.To {
				inside++
			}
		}
		if n != inside {
			t.Fatalf("%d %q %d: %d", seed, text, at, n)
		}
	}
}
