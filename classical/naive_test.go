package classical

import (
	"math/rand"
	"slices"
	"testing"

	"triforium/api"
	"triforium/kernel"
	"triforium/resolve"
	"triforium/tactic"
	"triforium/term"
	"triforium/testlang"
)

// The search in the words of the document.

type plain struct {
	l            []Rule
	tries, steps int
}

func (p *plain) try() {
	if p.tries == p.steps {
		panic(api.ErrFuel)
	}
	p.tries++
}

func count(t kernel.Theorem) int {
	l, _ := term.Strip(t.Prop())
	return len(l)
}

func (p *plain) step(state kernel.Theorem, at int) (kernel.Theorem, bool) {
	p.try()
	if l, _, _ := resolve.Solved(at, state, 8, 1); len(l) > 0 {
		return l[0], true
	}
	for _, r := range p.l {
		if r.Safe {
			p.try()
			if l, _, _ := resolve.First(r.Theorem, at, state, r.Kind, 8, 1); len(l) > 0 {
				return l[0], true
			}
		}
	}
	return state, false
}

// safes makes safe steps on a focus of one subgoal; it returns how many subgoals this has then.
func (p *plain) safes(state kernel.Theorem, at int) (kernel.Theorem, int, int) {
	focus, made := 1, 0
	for i := 0; i < focus; {
		now, ok := p.step(state, at+i)
		if !ok {
			i++
			continue
		}
		focus += count(now) - count(state)
		state = now
		made++
	}
	return state, focus, made
}

func (p *plain) solved(state kernel.Theorem, at, d int) (kernel.Theorem, bool) {
	state, focus, _ := p.safes(state, at)
	for ; focus > 0; focus-- {
		now, ok := p.unsafe(state, at, d)
		if !ok {
			return state, false
		}
		state = now
	}
	return state, true
}

func (p *plain) unsafe(state kernel.Theorem, at, d int) (kernel.Theorem, bool) {
	if d == 0 {
		return state, false
	}
	for _, r := range p.l {
		if r.Safe {
			continue
		}
		p.try()
		l, _, _ := resolve.First(r.Theorem, at, state, r.Kind, 8, 10)
		for _, s := range l {
			ok := true
			for n := count(s) - count(state) + 1; n > 0 && ok; n-- {
				s, ok = p.solved(s, at, d-1)
			}
			if ok {
				return s, true
			}
		}
	}
	return state, false
}

func naive(l []Rule, state kernel.Theorem, at, depth, steps int, search bool) (out kernel.Theorem, n int, code api.Errno) {
	defer func() {
		if r := recover(); r != nil {
			out, n, code = kernel.Theorem{}, 0, r.(api.Errno)
		}
	}()
	p := &plain{l: l, steps: steps}
	if !search {
		out, _, n = p.safes(state, at)
		return out, n, api.OK
	}
	out, ok := p.solved(state, at, depth)
	if !ok {
		panic(api.ErrFail)
	}
	return out, p.tries, api.OK
}

// quantified makes a formula with quantifiers.
func quantified(m *rand.Rand, depth int, bound []string) string {
	if depth == 0 {
		v := append([]string{"c", "d"}, bound...)
		x := v[m.Intn(len(v))]
		return []string{"p " + x, "q " + x, "r " + x + " c", "a"}[m.Intn(4)]
	}
	sub := func() string { return "(" + quantified(m, depth-1, bound) + ")" }
	switch m.Intn(7) {
	case 0:
		return "~ " + sub()
	case 1, 2:
		x := "x" + string(rune('0'+depth))
		return []string{"ALL", "EX"}[m.Intn(2)] + " (" + x + "::t). " + quantified(m, depth-1, append(slices.Clone(bound), x))
	}
	return sub() + []string{"&", "|", "-->"}[m.Intn(3)] + sub()
}

func TestP221Random(t *testing.T) {
	m := rand.New(rand.NewSource(221))
	more := []Rule{{fact("p_q"), Intro, false}, {fact("p_c"), Intro, true}, {fact("p_f"), Intro, false}, {fact("p_q"), Dest, true}}
	found := 0
	for range 100 {
		goal := "|- ((" + quantified(m, 2, nil) + ") :: bool) ==> |- ((" + quantified(m, 2, nil) + ") :: bool)"
		s := state(goal)
		if m.Intn(3) == 0 {
			cut, _, _ := tactic.Run(small(), nil, tactic.Expr{Kind: tactic.Cut, Prop: read("|- p d")}, s, 5, 1)
			s = cut[0]
		}
		l := slices.Clone(standard())
		for _, r := range more {
			if m.Intn(3) == 0 {
				l = append(l, r)
			}
		}
		m.Shuffle(len(l), func(i, j int) { l[i], l[j] = l[j], l[i] })
		at, depth, steps := m.Intn(count(s)), m.Intn(3), []int{0, 5, 40, 150, 400}[m.Intn(5)]
		for _, search := range []bool{false, true} {
			want, n, code := naive(l, s, at, depth, steps, search)
			got, k, e := Safe(l, s, at, steps)
			if search {
				got, k, e = Search(l, s, at, depth, steps)
			}
			if e != code || k != n || e == api.OK && !term.Equal(got.Prop(), want.Prop()) {
				t.Fatal(goal, search, e, code, k, n)
			}
			if search && e == api.OK {
				found++
				if testlang.Fault(got) != "" {
					t.Error(goal)
				}
			}
		}
	}
	if found < 3 {
		t.Error(found)
	}
}
