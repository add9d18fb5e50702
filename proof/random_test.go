package proof

import (
	"fmt"
	"math"
	"math/rand"
	"reflect"
	"strings"
	"testing"

	"triforium/api"
	"triforium/checker"
	"triforium/kernel"
	"triforium/term"
	"triforium/theory"
)

// gen makes random proofs, in which parts occur again and again.
type gen struct {
	*rand.Rand
	made []api.Proof
}

func newGen(seed int) *gen { return &gen{rand.New(rand.NewSource(int64(seed))), nil} }

func (g *gen) name() string { return []string{"a", "b", "c.1", "x'", "_"}[g.Intn(5)] }

func (g *gen) term() api.Term {
	return of([]string{"$x:N", "$A:P", "(\\x:N . #0)", "(\\y:N . #0)", "(\\:'a{c,d} . ?x.0:?a.12)", "($f:F(N, N) ?n.7:N)", "(imp:F(P, F(P, P)) $A:P)"}[g.Intn(7)])
}

func (g *gen) names() []string {
	var l []string
	for range g.Intn(3) {
		l = append(l, g.name())
	}
	return l
}

// proof returns a proof of the right form.
func (g *gen) proof(depth int) api.Proof {
	if len(g.made) > 0 && g.Intn(3) == 0 {
		return g.made[g.Intn(len(g.made))]
	}
	op := 1 + g.Intn(18)
	for depth == 0 && kinds[op].kids > 0 {
		op = 1 + g.Intn(18)
	}
	k, p := kinds[op], api.Proof{Op: op}
	if k.name {
		p.Name = g.name()
	}
	if k.term {
		p.Term = g.term()
	}
	if k.inst {
		for range g.Intn(3) {
			p.Inst.Types = append(p.Inst.Types, api.TypeBind{Name: g.name(), Index: g.Intn(12), To: typ([]string{"nat", "?a.0", "list('b)"}[g.Intn(3)])})
		}
		for range g.Intn(3) {
			p.Inst.Terms = append(p.Inst.Terms, api.TermBind{Name: g.name(), Index: g.Intn(2) * 1000001, To: g.term()})
		}
	}
	if k.list {
		p.TypeNames, p.TermNames, p.Num = g.names(), g.names(), g.Intn(3)
	}
	for range k.kids {
		p.Kids = append(p.Kids, g.proof(depth-1))
	}
	g.made = append(g.made, p)
	return p
}

// same reports whether proofs are equal, by what Go makes of them; names of abstractions play a part.
func same(a, b api.Proof) bool { return fmt.Sprintf("%+v", a) == fmt.Sprintf("%+v", b) }

// subproofs returns all parts of a proof, as a walk leaves them.
func subproofs(p api.Proof) []api.Proof {
	var l []api.Proof
	for _, k := range p.Kids {
		l = append(l, subproofs(k)...)
	}
	return append(l, p)
}

func TestP52Lines(t *testing.T) {
	shared := 0
	for seed := range 3000 {
		p := newGen(seed).proof(6)
		l, e := Lines(p)
		q, e2 := Join(l)
		if e != api.OK || e2 != api.OK || !Equal(p, q) {
			t.Fatal(seed, e, e2)
		}
		var different []api.Proof
		for _, s := range subproofs(p) {
			if !containsProof(different, s) {
				different = append(different, s)
			}
		}
		if len(different) != len(l) {
			t.Fatal(seed, len(different), len(l))
		}
		for i, x := range l {
			n := different[i]
			n.Kids = nil
			if !same(x.Node, n) || len(x.Kids) != len(different[i].Kids) {
				t.Fatal(seed, i)
			}
			for k, number := range x.Kids {
				if number >= i || !Equal(different[number], different[i].Kids[k]) {
					t.Fatal(seed, i, k)
				}
			}
		}
		if n, _ := Size(p); n > len(l) {
			shared++
		}
	}
	if shared < 300 {
		t.Error("hardly tried", shared)
	}
}

func containsProof(l []api.Proof, p api.Proof) bool {
	for _, q := range l {
		if Equal(p, q) {
			return true
		}
	}
	return false
}

// detours is a theory with an equation and a proposition, and theorems of it.
type detours struct {
	*gen
	thy      api.Theory
	theorems []kernel.Theorem
}

func newDetours(seed int) *detours {
	pure := theory.Pure()
	pure.Types = append(pure.Types, api.TypeDecl{Name: "nat"})
	pure.Consts = append(pure.Consts, api.ConstDecl{Name: "z", Type: typ("nat")}, api.ConstDecl{Name: "s", Type: typ("fun(nat, nat)")})
	pure.Axioms = append(pure.Axioms, api.Axiom{Name: "z_s", Prop: of("((eq:F(N, F(N, P)) z:N) (s:F(N, N) ?x.0:N))")}, api.Axiom{Name: "a", Prop: of("((eq:F(P, F(P, P)) ?A.0:P) ?A.0:P)")})
	return &detours{newGen(seed), pure, nil}
}

func (d *detours) any() kernel.Theorem { return d.theorems[d.Intn(len(d.theorems))] }

// equal returns Reflexive of what a theorem states, or of a side of it.
func (d *detours) reflexive(p api.Term) kernel.Theorem {
	if a, b, ok := term.IsEq(p); ok && d.Intn(2) == 0 {
		p = []api.Term{a, b}[d.Intn(2)]
	}
	t, _ := kernel.Reflexive(d.thy, p)
	return t
}

func (d *detours) step() {
	a, b := d.any(), d.any()
	r := d.reflexive(b.Prop())
	x := of([]string{"$x:N", "$A:P", "$f:F(N, N)"}[d.Intn(3)])
	var t kernel.Theorem
	switch d.Intn(12) {
	case 0:
		t, _ = kernel.Assume(d.thy, of([]string{"$A:P", "((eq:F(N, F(N, P)) $x:N) z:N)", "(!)"}[d.Intn(2)]))
	case 1:
		t, _ = kernel.Symmetric(a)
	case 2:
		t, _ = kernel.Transitive(a, r)
	case 3:
		t, _ = kernel.Transitive(r, a)
	case 4:
		t, _ = kernel.EqElim(r, b)
	case 5:
		t, _ = kernel.Instantiate(api.Inst{}, a)
	case 6:
		t, _ = kernel.Generalize(nil, nil, d.Intn(4), a)
	case 7:
		f, _ := kernel.Reflexive(d.thy, of([]string{"s:F(N, N)", "$f:F(N, N)", "(eq:F(N, F(N, P)) z:N)"}[d.Intn(3)]))
		t, _ = kernel.Combination(f, a)
	case 8:
		t, _ = kernel.Abstraction(x, a)
	case 9:
		t, _ = kernel.AllIntro(x, a)
		t, _ = kernel.AllElim(of([]string{"$x:N", "z:N", "$A:P", "$f:F(N, N)"}[d.Intn(4)]), t)
	case 10:
		t, _ = kernel.Axiom(d.thy, []string{"z_s", "a"}[d.Intn(2)])
	case 11:
		t, _ = kernel.Reflexive(d.thy, of([]string{"z:N", "$x:N", "$f:F(N, N)", "$A:P"}[d.Intn(4)]))
	}
	if t.Is() {
		d.theorems = append(d.theorems, t)
	}
}

// P5.3: what the checker takes of a proof it takes of the shorter one.
func TestP53Shorter(t *testing.T) {
	shorter := [19]int{}
	for seed := range 300 {
		d := newDetours(seed)
		first, _ := kernel.Axiom(d.thy, "z_s")
		d.theorems = append(d.theorems, first)
		for range 60 {
			d.step()
		}
		for i, x := range d.theorems {
			p := x.Proof()
			q, e := Shorter(p)
			again, e2 := Shorter(q)
			before, e3 := checker.Check(d.thy, p)
			after, e4 := checker.Check(d.thy, q)
			if e != api.OK || e2 != api.OK || e3 != api.OK || e4 != api.OK || !checker.Same(before, after) || !Equal(again, q) {
				t.Fatal(seed, i, e, e2, e3, e4)
			}
			n, _ := Size(p)
			m, _ := Size(q)
			if m > n {
				t.Fatal(seed, i, n, m)
			}
			if m < n {
				shorter[p.Op]++
			}
		}
	}
	for _, op := range []int{api.Symmetric, api.Transitive, api.EqElim, api.Instantiate, api.Generalize, api.Combination, api.Abstraction, api.AllElim} {
		if shorter[op] < 20 {
			t.Error("hardly tried", op, shorter[op])
		}
	}
}

// The shorter one of a shorter one is itself, also of what the checker does not take.
func TestP53Random(t *testing.T) {
	for seed := range 5000 {
		p := newGen(seed).proof(6)
		q, e := Shorter(p)
		again, e2 := Shorter(q)
		n, _ := Size(p)
		m, _ := Size(q)
		if e != api.OK || e2 != api.OK || m > n || !same(q, again) {
			t.Fatal(seed, e, e2, n, m)
		}
	}
}

func TestP54Back(t *testing.T) {
	for seed := range 5000 {
		p := newGen(seed).proof(6)
		s, e := Text(p)
		q, e2 := Read(s)
		if e != api.OK || e2 != api.OK || !same(p, q) {
			t.Fatal(seed, s, e, e2)
		}
	}
}

// What is read from any text has this text.
func TestP54Forth(t *testing.T) {
	right := 0
	for seed := range 20000 {
		g := newGen(seed)
		s, _ := Text(g.proof(3))
		b := []byte(s)
		for range 1 + g.Intn(2) {
			i := g.Intn(len(b))
			switch g.Intn(4) {
			case 0:
				b = append(b[:i:i], b[i+1:]...)
			case 1:
				b[i] = "()[]<>| 0a.=?$#\xff"[g.Intn(16)]
			case 2:
				b = append(append(b[:i:i], "()[]<>| 01a.=?"[g.Intn(14)]), b[i:]...)
			case 3:
				k := g.Intn(len(b))
				b[i], b[k] = b[k], b[i]
			}
			if len(b) == 0 {
				b = []byte(" ")
			}
		}
		p, e := Read(string(b))
		if e != api.OK {
			if e != api.ErrText || !Equal(p, api.Proof{}) {
				t.Fatal(seed, string(b), e)
			}
			continue
		}
		right++
		if s, e := Text(p); e != api.OK || s != string(b) {
			t.Fatal(seed, string(b), s, e)
		}
	}
	if right < 500 {
		t.Error("hardly tried", right)
	}
}

// wild returns any proof.
func (g *gen) wild(depth int) api.Proof {
	number := func() int { return []int{0, 1, -1, math.MaxInt, math.MinInt}[g.Intn(5)] }
	p := api.Proof{Op: g.Intn(22) - 2, Name: []string{"", "a", "\xff", strings.Repeat("a", 41)}[g.Intn(4)], Num: number()}
	if g.Intn(2) == 0 {
		p = api.Proof{Op: 1 + g.Intn(18), Name: "a", Term: g.term()}
	}
	if g.Intn(3) == 0 {
		p.Term = api.Term{Op: g.Intn(8), Num: number(), Type: api.Type{Op: g.Intn(5), Index: number(), Sort: g.names()}, Kids: make([]api.Term, g.Intn(3))}
	}
	if g.Intn(3) == 0 {
		p.TypeNames, p.TermNames = g.names(), []string{"", "\xff"}
	}
	if g.Intn(3) == 0 {
		p.Inst.Types = []api.TypeBind{{Name: g.name(), Index: number(), To: api.Type{Op: g.Intn(5)}}}
		p.Inst.Terms = []api.TermBind{{Name: "", Index: number(), To: p.Term}}
	}
	for range g.Intn(3) {
		if depth > 0 {
			p.Kids = append(p.Kids, g.wild(depth-1))
		}
	}
	return p
}

// P1: no function panics, whatever it is given; with an error each other result is its zero value.
func TestP1Garbage(t *testing.T) {
	right := 0
	for seed := range 20000 {
		g := newGen(seed)
		p, q := g.wild(3), g.wild(3)
		Size(p)
		Names(p)
		Counts(p)
		if !Equal(p, p) || Equal(p, q) != (fmt.Sprint(p) == fmt.Sprint(q)) {
			t.Fatal(seed)
		}
		e := Check(p)
		if e == api.OK {
			right++
		}
		l, e1 := Lines(p)
		s, e2 := Shorter(p)
		text, e3 := Text(p)
		if e1 != e || e2 != e || e != api.OK && e3 != e || e != api.OK && (l != nil || !reflect.ValueOf(s).IsZero()) || e3 != api.OK && text != "" {
			t.Fatal(seed, e, e1, e2, e3)
		}
		j, e4 := Join([]Line{{p, []int{g.Intn(3) - 1}}, {q, []int{0, g.Intn(4) - 1}}, {api.Proof{Op: api.Symmetric}, []int{g.Intn(2)}}})
		if e4 != api.OK && !reflect.ValueOf(j).IsZero() {
			t.Fatal(seed, e4)
		}
		if r, e5 := Read(text + string(rune(g.Intn(300)))); e5 == api.OK || !reflect.ValueOf(r).IsZero() {
			t.Fatal(seed, e5)
		}
	}
	if right < 50 {
		t.Error("hardly tried", right)
	}
}

// spoil writes into all memory of a proof.
func spoil(p *api.Proof) {
	for i := range p.TypeNames {
		p.TypeNames[i] = "spoilt"
	}
	for i := range p.TermNames {
		p.TermNames[i] = "spoilt"
	}
	for i := range p.Inst.Types {
		spoilType(&p.Inst.Types[i].To)
		p.Inst.Types[i].Name = "spoilt"
	}
	for i := range p.Inst.Terms {
		spoilTerm(&p.Inst.Terms[i].To)
		p.Inst.Terms[i].Name = "spoilt"
	}
	spoilTerm(&p.Term)
	for i := range p.Kids {
		spoil(&p.Kids[i])
	}
	p.Op = 99
}

func spoilTerm(t *api.Term) {
	spoilType(&t.Type)
	for i := range t.Kids {
		spoilTerm(&t.Kids[i])
	}
	t.Op = 99
}

func spoilType(t *api.Type) {
	for i := range t.Sort {
		t.Sort[i] = "spoilt"
	}
	for i := range t.Args {
		spoilType(&t.Args[i])
	}
	t.Op = 99
}

func TestP51NewMemory(t *testing.T) {
	for seed := range 300 {
		p := newGen(seed).proof(6)
		before := fmt.Sprint(p)
		l, _ := Lines(p)
		lines := fmt.Sprint(l)
		q, _ := Join(l)
		s, _ := Shorter(p)
		text, _ := Text(p)
		r, _ := Read(text)
		joined := fmt.Sprint(q)
		// no part of a result is another part of it
		for i := range q.Kids {
			spoil(&q.Kids[i])
			for k := i + 1; k < len(q.Kids); k++ {
				if q.Kids[k].Op == 99 {
					t.Fatal(seed, "shared Kids")
				}
			}
		}
		q, _ = Join(l)
		spoil(&q)
		spoil(&s)
		spoil(&r)
		if fmt.Sprint(p) != before || fmt.Sprint(l) != lines {
			t.Fatal(seed, "an argument was changed")
		}
		again, _ := Join(l)
		if fmt.Sprint(again) != joined {
			t.Fatal(seed, "Join")
		}
		for i := range l {
			spoil(&l[i].Node)
			for k := range l[i].Kids {
				l[i].Kids[k] = -7
			}
		}
		if fmt.Sprint(p) != before {
			t.Fatal(seed, "Lines share memory with the proof")
		}
	}
}
