package proof

import (
	"strconv"

	"triforium/api"
)

// Line is a node of a proof, without Kids, and the numbers of the lines that are its Kids.
type Line struct {
	Node api.Proof
	Kids []int
}

// Lines returns the different subproofs of a proof, each one behind its Kids, the proof itself last.
func Lines(p api.Proof) ([]Line, api.Errno) {
	if e := Check(p); e != api.OK {
		return nil, e
	}
	l := liner{at: map[string]int{}}
	l.add(&p)
	return l.lines, api.OK
}

// liner collects the lines of a proof.
type liner struct {
	lines []Line
	at    map[string]int // the number of each line, by its text
}

// add returns the number of the line that is a proof.
func (l *liner) add(p *api.Proof) int {
	var kids []int
	for i := range p.Kids {
		k := l.add(&p.Kids[i])
		kids = append(kids, k)
	}
	text := lineText(p, kids)
	if n, ok := l.at[text]; ok {
		return n
	}
	n := len(l.lines)
	l.at[text] = n
	l.lines = append(l.lines, Line{fields(p), kids})
	return n
}

// lineText returns a text that is that of just those nodes whose fields are equal, and whose Kids are lines of the same numbers.
// It is not that of Text, which is none for terms that are not of the right form.
func lineText(p *api.Proof, kids []int) string {
	var w lineWriter
	w.number(p.Op)
	w.word(p.Name)
	w.number(p.Num)
	w.term(&p.Term)
	w.words(p.TypeNames)
	w.words(p.TermNames)
	w.number(len(p.Inst.Types))
	for i := range p.Inst.Types {
		b := &p.Inst.Types[i]
		w.word(b.Name)
		w.number(b.Index)
		w.typ(&b.To)
	}
	w.number(len(p.Inst.Terms))
	for i := range p.Inst.Terms {
		b := &p.Inst.Terms[i]
		w.word(b.Name)
		w.number(b.Index)
		w.term(&b.To)
	}
	for _, k := range kids {
		w.number(k)
	}
	return string(w.text)
}

// lineWriter writes values of whatever form, so that different ones have different texts: each list and each word has its length ahead.
type lineWriter struct {
	text []byte
}

func (w *lineWriter) number(n int) {
	w.text = append(strconv.AppendInt(w.text, int64(n), 36), ' ')
}

func (w *lineWriter) word(s string) {
	w.number(len(s))
	w.text = append(w.text, s...)
}

func (w *lineWriter) words(l []string) {
	w.number(len(l))
	for _, s := range l {
		w.word(s)
	}
}

func (w *lineWriter) typ(t *api.Type) {
	w.number(t.Op)
	w.word(t.Name)
	w.number(t.Index)
	w.words(t.Sort)
	w.number(len(t.Args))
	for i := range t.Args {
		w.typ(&t.Args[i])
	}
}

// term leaves out the names of abstractions: they play no part.
func (w *lineWriter) term(t *api.Term) {
	w.number(t.Op)
	if t.Op != api.Abs {
		w.word(t.Name)
	}
	w.number(t.Num)
	w.typ(&t.Type)
	w.number(len(t.Kids))
	for i := range t.Kids {
		w.term(&t.Kids[i])
	}
}

// Join returns the proof that is the last line.
func Join(l []Line) (api.Proof, api.Errno) {
	if len(l) == 0 || len(l) > api.MaxProof {
		return api.Proof{}, api.ErrCount
	}
	for i := range l {
		if e := lineError(&l[i], i); e != api.OK {
			return api.Proof{}, e
		}
	}
	count, depth := lastSize(l)
	if count > api.MaxProof {
		return api.Proof{}, api.ErrLarge
	}
	// Check would say this, too, but what is so deep is not to be built
	if depth > MaxNest {
		return api.Proof{}, api.ErrDepth
	}
	p := joined(l, len(l)-1)
	if e := Check(p); e != api.OK {
		return api.Proof{}, e
	}
	own(&p)
	return p, api.OK
}

// lineError returns the error of the line with a number by itself.
func lineError(l *Line, n int) api.Errno {
	if len(l.Node.Kids) > 0 {
		return api.ErrForm
	}
	for _, k := range l.Kids {
		if k < 0 || k >= n {
			return ErrLine
		}
	}
	return api.OK
}

// lastSize returns the size of the proof that is the last line; a number of nodes above api.MaxProof may be less than it is.
func lastSize(l []Line) (count, depth int) {
	counts, depths := make([]int, len(l)), make([]int, len(l))
	for i, x := range l {
		counts[i] = 1
		for _, k := range x.Kids {
			counts[i] = min(counts[i]+counts[k], api.MaxProof+1)
			depths[i] = max(depths[i], depths[k])
		}
		depths[i]++
	}
	return counts[len(l)-1], depths[len(l)-1]
}

// joined returns the proof that is a line. Equal lines share what their nodes have: it may be very large, and be refused.
func joined(l []Line, n int) api.Proof {
	p := l[n].Node
	p.Kids = make([]api.Proof, len(l[n].Kids))
	for i, k := range l[n].Kids {
		p.Kids[i] = joined(l, k)
	}
	return p
}

// own gives each node of a joined proof its own memory.
func own(p *api.Proof) {
	kids := p.Kids
	*p = fields(p)
	p.Kids = kids
	for i := range kids {
		own(&kids[i])
	}
}
