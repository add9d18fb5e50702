package kernel

import "triforium/api"

// Step is a step of a script: a rule (the kind of a proof, or TransferRule), the index of a theory, what the rule takes beside theorems, and the registers of these.
type Step struct {
	Rule, Theory         int
	Name                 string
	Term                 api.Term
	Inst                 api.Inst
	TypeNames, TermNames []string
	Num                  int
	From                 []int
}

// Result is what a step made: a theorem, or a code.
type Result struct {
	Theorem Theorem
	Code    api.Errno
}

// maxSteps is how many steps a script has at most.
const maxSteps = 300

// Play makes the steps of a script; the result of each one is the register with its index.
func Play(l []api.Theory, script []Step) []Result {
	out := make([]Result, len(script))
	if len(script) > maxSteps {
		for i := range out {
			out[i].Code = api.ErrCount
		}
		return out
	}
	p := player{theories: l, bases: make([]*base, len(l))}
	for i, s := range script {
		out[i].Theorem, out[i].Code = p.step(s, out[:i])
	}
	return out
}

// player makes steps in theories, each of which it opens once.
type player struct {
	theories []api.Theory
	bases    []*base
}

// step makes a step behind some others.
func (p *player) step(s Step, ahead []Result) (Theorem, api.Errno) {
	if s.Rule < api.ByAxiom || s.Rule > LastRule {
		return Theorem{}, api.ErrArgument
	}
	r := ruleOf(s.Rule)
	if r.theory && (s.Theory < 0 || s.Theory >= len(p.theories)) {
		return Theorem{}, api.ErrRange
	}
	if len(s.From) != r.theorems {
		return Theorem{}, api.ErrCount
	}
	var from []Theorem
	for _, k := range s.From {
		if k < 0 || k >= len(ahead) {
			return Theorem{}, api.ErrRange
		}
		from = append(from, ahead[k].Theorem)
	}
	return apply(s, func() *base { return p.open(s.Theory) }, from...)
}

// open returns the base that is a theory of the list, or panics with its error.
func (p *player) open(n int) *base {
	if p.bases[n] == nil {
		p.bases[n] = open(p.theories[n])
	}
	return p.bases[n]
}
