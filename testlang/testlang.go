// Package testlang reads terms, theories and theorems for the tests of the layers from 19 on, in a notation of logic and numbers. It panics, if a text is wrong.
package testlang

import (
	"strconv"
	"strings"

	"triforium/api"
	"triforium/checker"
	"triforium/kernel"
	"triforium/mixfix"
	"triforium/term"
	"triforium/theory"
)

// Notations returns those of Pure, HOL and Nat.
func Notations() []mixfix.Notation {
	infix := func(name, word string, kind, prio int) mixfix.Notation {
		return mixfix.Notation{Const: name, Kind: kind, Words: []string{word}, Prio: prio}
	}
	ahead := func(name, word string, prio int) mixfix.Notation {
		return mixfix.Notation{Const: name, Kind: mixfix.Mixfix, Words: []string{word, ""}, Prios: []int{prio}, Prio: prio}
	}
	return append(mixfix.Pure(),
		ahead("Trueprop", "|-", 5), ahead("Not", "~", 40),
		infix("And", "&", mixfix.Infixr, 35), infix("Or", "|", mixfix.Infixr, 30), infix("Implies", "-->", mixfix.Infixr, 25), infix("Equal", "=", mixfix.Infixl, 50),
		infix("All", "ALL", mixfix.Binder, 10), infix("Ex", "EX", mixfix.Binder, 10), infix("The", "THE", mixfix.Binder, 10),
		mixfix.Notation{Const: "If", Kind: mixfix.Mixfix, Words: []string{"if", "then", "else", ""}, Prios: []int{0, 0, 10}, Prio: 10},
		infix("plus", "+", mixfix.Infixl, 65), infix("times", "*", mixfix.Infixl, 70), infix("le", "<=", mixfix.Infix, 50), infix("less", "<", mixfix.Infix, 50),
	)
}

// wrong panics with what is wrong, and where.
func wrong(e api.Errno, s string) {
	if e != api.OK {
		panic(strconv.Itoa(int(e)) + " in " + s)
	}
}

// known returns the notations of the constants that a theory has.
func known(thy api.Theory) []mixfix.Notation {
	var out []mixfix.Notation
	for _, n := range Notations() {
		if _, ok := theory.Const(thy, n.Const); ok {
			out = append(out, n)
		}
	}
	return out
}

// Term reads a term of a theory; of types that are not written variables are left.
func Term(thy api.Theory, s string) api.Term {
	t, e := mixfix.Read(thy, known(thy), nil, s, api.Type{})
	wrong(e, s)
	return t
}

// Terms reads terms, with `;` between.
func Terms(thy api.Theory, s string) []api.Term {
	var out []api.Term
	for part := range parts(s) {
		out = append(out, Term(thy, part))
	}
	return out
}

// parts yields what stands between marks `;`, but for nothing.
func parts(s string) func(yield func(string) bool) {
	return func(yield func(string) bool) {
		for part := range strings.SplitSeq(s, ";") {
			part = strings.TrimSpace(part)
			if part != "" && !yield(part) {
				return
			}
		}
	}
}

// Text writes a term.
func Text(thy api.Theory, t api.Term) string {
	s, e := mixfix.Print(thy, known(thy), nil, t)
	if e == api.OK {
		return s
	}
	s, e = term.Text(t)
	if e == api.OK {
		return s
	}
	return "no term"
}

// Theory returns a theory with further types (`t; list 1`), constants (`f : t => t; c : t`) and axioms (`f_c : f c == c`).
func Theory(thy api.Theory, kinds, consts, axioms string) api.Theory {
	thy.Name = "T"
	for s := range parts(kinds) {
		name, n, _ := strings.Cut(s, " ")
		arity, _ := strconv.Atoi(n)
		thy.Types = append(thy.Types, api.TypeDecl{Name: name, Arity: arity})
	}
	for s := range parts(consts) {
		name, k, _ := strings.Cut(s, " : ")
		t, e := mixfix.Type(k)
		wrong(e, s)
		thy.Consts = append(thy.Consts, api.ConstDecl{Name: name, Type: t})
	}
	for s := range parts(axioms) {
		name, a, _ := strings.Cut(s, " : ")
		thy.Axioms = append(thy.Axioms, api.Axiom{Name: name, Prop: Term(thy, a)})
	}
	wrong(theory.Check(thy), kinds+consts+axioms)
	return thy
}

// Axiom returns an axiom of a theory.
func Axiom(thy api.Theory, name string) kernel.Theorem {
	t, e := kernel.Axiom(thy, name)
	wrong(e, name)
	return t
}

// Axioms returns axioms, whose names have blanks between.
func Axioms(thy api.Theory, names string) []kernel.Theorem {
	var out []kernel.Theorem
	for name := range strings.FieldsSeq(names) {
		out = append(out, Axiom(thy, name))
	}
	return out
}

// Assumed returns a proposition from itself.
func Assumed(thy api.Theory, s string) kernel.Theorem {
	t, e := kernel.Assume(thy, Term(thy, s))
	wrong(e, s)
	return t
}

// Sequent writes what a theorem states: its hypotheses with `;` between, `|>` and the proposition.
func Sequent(t kernel.Theorem) string {
	if !t.Is() {
		return "none"
	}
	thy := t.Theory()
	var hyps []string
	for _, h := range t.Hyps() {
		hyps = append(hyps, Text(thy, h))
	}
	s := strings.Join(hyps, "; ")
	if s != "" {
		s += " "
	}
	return s + "|> " + Text(thy, t.Prop())
}

// Fault returns what the checker has against a theorem; nothing, if it takes its proof.
func Fault(t kernel.Theorem) string {
	if !t.Is() {
		return "no theorem"
	}
	s, e := checker.Check(t.Theory(), t.Proof())
	switch {
	case e != api.OK:
		return "error " + strconv.Itoa(int(e))
	case !checker.Same(s, checker.Sequent{Hyps: t.Hyps(), Prop: t.Prop(), Oracles: t.Oracles()}):
		return "another theorem"
	}
	return ""
}
