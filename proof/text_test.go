package proof

import (
	"fmt"
	"math"
	"strings"
	"testing"

	"triforium/api"
	"triforium/term"
)

func TestP54Words(t *testing.T) {
	a, b := "(assume [$A:prop])", "(refl [$x:nat])"
	for op, want := range []string{"", "(axiom ax)", "(oracle or [$A:prop])", a, "(impI [$A:prop] " + a + ")", "(impE " + a + " " + b + ")", "(allI [$x:nat] " + a + ")", "(allE [$y:nat] " + a + ")",
		b, "(sym " + a + ")", "(trans " + a + " " + b + ")", "(comb " + a + " " + b + ")", "(abs [$x:nat] " + a + ")", "(beta [((\\x:nat . #0) $x:nat)])", "(eta [(\\x:nat . ($f:fun(nat, nat) #0))])",
		"(eqI " + a + " " + b + ")", "(eqE " + a + " " + b + ")", "(inst <a.0=[nat] | x.3=[$x:nat]> " + a + ")", "(gen 4 <a b | x> " + a + ")"} {
		if op == 0 {
			continue
		}
		s, e := Text(one()[op])
		if e != api.OK || s != want {
			t.Error(op, s, e)
		}
		p, e := Read(want)
		if e != api.OK || !Equal(p, one()[op]) {
			t.Error(op, p, e)
		}
	}
	leaf := []api.Proof{assume("$A:P")}
	for want, p := range map[string]api.Proof{
		"(impI [$A:prop] (assume [$A:prop]))":                                          node(api.ImpIntro, "$A:P", assume("$A:P")),
		"(inst < | > (assume [$A:prop]))":                                              {Op: api.Instantiate, Kids: leaf},
		"(gen 0 < | > (assume [$A:prop]))":                                             {Op: api.Generalize, Kids: leaf},
		"(gen 9223372036854775807 < | x y z> (assume [$A:prop]))":                      {Op: api.Generalize, Num: math.MaxInt, TermNames: []string{"x", "y", "z"}, Kids: leaf},
		"(gen 10 <a a | > (assume [$A:prop]))":                                         {Op: api.Generalize, Num: 10, TypeNames: []string{"a", "a"}, Kids: leaf},
		"(inst <a.b.0=[nat] c.9223372036854775807=[?a.0{c,d}] | > (assume [$A:prop]))": {Op: api.Instantiate, Inst: api.Inst{Types: []api.TypeBind{{Name: "a.b", To: typ("nat")}, {Name: "c", Index: math.MaxInt, To: typ("?a.0{c,d}")}}}, Kids: leaf},
		"(inst < | x.0=[#0] y.1=[y:nat]> (assume [$A:prop]))":                          {},
	} {
		if p.Op == 0 {
			if _, e := Read(want); e != api.ErrText { // a loose Bound has no text
				t.Error(e)
			}
			continue
		}
		s, e := Text(p)
		q, e2 := Read(want)
		if e != api.OK || e2 != api.OK || s != want || !Equal(p, q) {
			t.Error(s, e, e2)
		}
	}
}

func TestP51TextErrors(t *testing.T) {
	leaf := []api.Proof{assume("$A:P")}
	bad := api.Proof{Op: api.Assume, Term: api.Term{Op: api.Bound}}
	long := strings.Repeat("a", 41)
	for i, x := range []struct {
		p api.Proof
		e api.Errno
	}{
		{api.Proof{}, ErrKind}, {api.Proof{Op: api.Symmetric}, api.ErrForm},
		{api.Proof{Op: api.ByAxiom}, api.ErrForm}, {api.Proof{Op: api.ByAxiom, Name: long}, api.ErrForm}, {api.Proof{Op: api.ByAxiom, Name: long[1:]}, api.OK}, {api.Proof{Op: api.ByAxiom, Name: "\xff"}, api.ErrForm},
		{bad, term.ErrLoose}, {api.Proof{Op: api.ByOracle, Term: bad.Term}, api.ErrForm}, {api.Proof{Op: api.ByOracle, Name: "o", Term: bad.Term}, term.ErrLoose},
		{api.Proof{Op: api.Assume}, api.ErrForm}, {api.Proof{Op: api.Assume, Term: api.Term{Op: api.Var, Name: "x", Num: -1}}, api.ErrRange},
		{api.Proof{Op: api.Generalize, Num: -1, Kids: leaf}, api.ErrForm}, {api.Proof{Op: api.Generalize, Num: math.MinInt, Kids: leaf}, api.ErrForm},
		{api.Proof{Op: api.Generalize, TypeNames: []string{"a", "1"}, Kids: leaf}, api.ErrForm}, {api.Proof{Op: api.Generalize, TermNames: []string{""}, Kids: leaf}, api.ErrForm},
		{api.Proof{Op: api.Instantiate, Inst: api.Inst{Types: []api.TypeBind{{Name: "a", Index: -1, To: typ("nat")}}}, Kids: leaf}, api.ErrForm},
		{api.Proof{Op: api.Instantiate, Inst: api.Inst{Types: []api.TypeBind{{Name: "a", To: api.Type{Op: api.TVar, Name: "a", Index: -1}}}}, Kids: leaf}, api.ErrRange},
		// names and numbers ahead of the parts, types ahead of terms
		{api.Proof{Op: api.Instantiate, Inst: api.Inst{Types: []api.TypeBind{{Name: "a", To: api.Type{Op: api.TVar, Name: "a", Index: -1}}}, Terms: []api.TermBind{{Name: "", To: bad.Term}}}, Kids: leaf}, api.ErrForm},
		{api.Proof{Op: api.Instantiate, Inst: api.Inst{Types: []api.TypeBind{{Name: "a", To: api.Type{Op: api.TVar, Name: "a", Index: -1}}}, Terms: []api.TermBind{{Name: "x", To: bad.Term}}}, Kids: leaf}, api.ErrRange},
		{api.Proof{Op: api.Instantiate, Inst: api.Inst{Types: []api.TypeBind{{Name: "a", To: typ("nat")}}, Terms: []api.TermBind{{Name: "x", To: bad.Term}}}, Kids: leaf}, term.ErrLoose},
		// a node ahead of its Kids, and these in order
		{api.Proof{Op: api.Generalize, Num: -1, Kids: []api.Proof{bad}}, api.ErrForm}, {api.Proof{Op: api.Generalize, Kids: []api.Proof{bad}}, term.ErrLoose},
		{node(api.ImpElim, "", bad, api.Proof{Op: api.ByAxiom}), term.ErrLoose}, {node(api.ImpElim, "", api.Proof{Op: api.ByAxiom}, bad), api.ErrForm},
		{node(api.ImpElim, "", bad, api.Proof{}), ErrKind}, // Check is ahead
	} {
		s, e := Text(x.p)
		if e != x.e || e != api.OK && s != "" {
			t.Error(i, s, e, x.e)
		}
	}
}

// widest returns a type of a constructor with n arguments, whose text has 3 * n + 2 bytes for a name of 1 byte.
func widest(name string, n int) api.Type {
	k := api.Type{Op: api.TCon, Name: name}
	for range n {
		k.Args = append(k.Args, api.Type{Op: api.TCon, Name: "b"})
	}
	return k
}

func TestP51TextLimits(t *testing.T) {
	fits, tooLong := widest("a", 13333), widest("aa", 13333) // texts of 40000 and 40001 bytes
	withType := func(k api.Type) api.Proof { return inst(k, of("$x:N")) }
	withTerm := func(k api.Type) api.Proof {
		return api.Proof{Op: api.Assume, Term: api.Term{Op: api.Const, Name: "c", Type: k}}
	}
	s, e := Text(withType(fits))
	if p, e2 := Read(s); e != api.OK || e2 != api.OK || !Equal(p, withType(fits)) {
		t.Error(e, e2)
	}
	if _, e := Text(withType(tooLong)); e != api.ErrLarge {
		t.Error(e)
	}
	if _, e := Text(withTerm(fits)); e != api.ErrLarge { // term.Text has this error
		t.Error(e)
	}
	if _, e := Read(strings.Replace(s, "[a(", "[aa(", 1)); e != api.ErrText {
		t.Error(e)
	}
	// 400000 bytes, and one more
	p := api.Proof{Op: api.ByAxiom, Name: "a"}
	for range 23528 {
		p = node(api.ImpElim, "", p, api.Proof{Op: api.ByAxiom, Name: "a"}) // 17 bytes each
	}
	p = node(api.Symmetric, "", node(api.Symmetric, "", p)) // 12
	s, e = Text(p)
	if e != api.OK {
		t.Fatal(e)
	}
	missing := maxText - len(s)
	p.Kids[0].Kids[0].Kids[1].Name = strings.Repeat("a", 1+missing)
	s, e = Text(p)
	q, e2 := Read(s)
	if len(s) != maxText || e != api.OK || e2 != api.OK || !Equal(p, q) {
		t.Error(len(s), e, e2)
	}
	p.Kids[0].Kids[0].Kids[1].Name += "a"
	if s, e := Text(p); e != api.ErrLarge || s != "" {
		t.Error(len(s), e)
	}
	if _, e := Read(s + " "); e != api.ErrLarge {
		t.Error(e)
	}
	if _, e := Read(strings.Replace(s, "a)", "b", 1)); e != api.ErrText {
		t.Error(e)
	}
	// an error behind the place where the text is too large is ahead of this
	p = node(api.ImpElim, "", p, api.Proof{Op: api.ByAxiom, Name: "1"})
	if _, e := Text(p); e != api.ErrForm {
		t.Error(e)
	}
	// as deep as a proof may be, and deeper
	s, e = Text(chain(MaxNest))
	q, e2 = Read(s)
	if e != api.OK || e2 != api.OK || !Equal(q, chain(MaxNest)) {
		t.Error(e, e2)
	}
	if _, e := Read("(sym " + s + ")"); e != api.ErrText {
		t.Error(e)
	}
}

func TestP51ReadErrors(t *testing.T) {
	for i, s := range []string{
		"", " ", "axiom a", "(axiom a", "(axiom a))", " (axiom a)", "(axiom a) ", "( axiom a)", "(axiom  a)", "(axiom)", "(axiom )", "(axiom a b)", "(axiom 1)", "(axiom a\xff)", "(axiom " + strings.Repeat("a", 41) + ")",
		"(Axiom a)", "(axioms a)", "(none)", "()", "(assume)", "(assume $A:prop)", "(assume [])", "(assume [$A:prop)", "(assume [$A:prop]])", "(assume [ $A:prop])", "(assume [$A:prop] )", "(assume [#0])", "(assume [$A])",
		"(sym)", "(sym )", "(sym (axiom a) (axiom a))", "(sym(axiom a))", "(trans (axiom a))", "(impI (axiom a))", "(impI [$A:prop])",
		"(gen 0 <|> (axiom a))", "(gen 0 < |> (axiom a))", "(gen 0 <a> (axiom a))", "(gen 0 <a |> (axiom a))", "(gen 0 < a | > (axiom a))", "(gen 0 <a  b | > (axiom a))", "(gen 0 <a | b > (axiom a))", "(gen 0 <a | b)", "(gen 0 <a",
		"(gen 00 < | > (axiom a))", "(gen -1 < | > (axiom a))", "(gen +1 < | > (axiom a))", "(gen  < | > (axiom a))", "(gen 9223372036854775808 < | > (axiom a))", "(gen 1_0 < | > (axiom a))", "(gen 0 <1 | > (axiom a))", "(gen < | > (axiom a))",
		"(inst <a=[nat] | > (axiom a))", "(inst <a.=[nat] | > (axiom a))", "(inst <.0=[nat] | > (axiom a))", "(inst <a.00=[nat] | > (axiom a))", "(inst <a.-1=[nat] | > (axiom a))", "(inst <a.0[nat] | > (axiom a))", "(inst <a.0=nat | > (axiom a))",
		"(inst <a.0=[] | > (axiom a))", "(inst <a.0=[#0] | > (axiom a))", "(inst < | x.0=[nat]> (axiom a))", "(inst < | x.0=[x:nat]>)", "(inst <1.0=[nat] | > (axiom a))", "(inst <a.0=[nat], b.0=[nat] | > (axiom a))", "(inst <a.1000001=[?a.1000001] | > (axiom a))",
		"(oracle o)", "(oracle [$A:prop])", "(oracle o $A)", "\xff\xfe", "(axiom a)(axiom a)", "(axiom é)",
	} {
		if p, e := Read(s); e != api.ErrText || !Equal(p, api.Proof{}) {
			t.Error(i, s, e)
		}
	}
	if _, e := Read("(inst <a.1000001=[?a.1000000] | > (axiom a))"); e != api.OK {
		t.Error(e)
	}
	if p, e := Read(fmt.Sprint("(gen ", math.MaxInt, " < | > (axiom a))")); e != api.OK || p.Num != math.MaxInt {
		t.Error(p, e)
	}
}
