package arith

import (
	"cmp"
	"iter"
	"math/bits"
	"slices"

	"triforium/api"
)

// maxSums is how many sums are made at most.
const maxSums = 60000

// tooMany is what a search leaves with when it would make too many rows.
type tooMany struct{}

// contradiction is what a search leaves with when it has found a certificate: the index of its last line.
type contradiction struct{ line int }

// history tells of which given rows and natural ones a row was made.
type history [2]uint64

func (h history) count() int { return bits.OnesCount64(h[0]) + bits.OnesCount64(h[1]) }

func (h history) and(o history) history { return history{h[0] | o[0], h[1] | o[1]} }

// derivedRow is a row with the line that makes it.
type derivedRow struct {
	vector
	line int
	from history
}

// eliminator eliminates unknowns.
type eliminator struct {
	lines []Line // whose numbers are those of this list
	rows  []derivedRow
	found map[[MaxUnknowns]int]int // rows by their coefficients
	few   bool                     // rows are left out that are made of more rows than they need
	less  bool                     // whether some were
	gone  int                      // unknowns that were eliminated
	sums  int
	large bool // whether a row was left out, as a number was too large
}

// Refute looks for a certificate by eliminating one unknown after the other, with at most so many lines; false, if some rational numbers fulfil all rows.
func Refute(rows []Row, lines int) ([]Line, bool, api.Errno) {
	if e := errorOf(rows); e != api.OK {
		return nil, false, e
	}
	if lines < 0 || lines > MaxLines {
		return nil, false, api.ErrRange
	}
	l, ok, all, e := eliminated(rows, true)
	if !ok && !all && e != api.ErrFuel {
		// what was left out may be missed, as of equal rows only one was kept
		l, ok, _, e = eliminated(rows, false)
	}
	if ok && len(l) > lines {
		return nil, false, api.ErrFuel
	}
	return l, ok, e
}

// eliminated returns a certificate, if there is one, and whether no row was left out as it is made of too many.
func eliminated(rows []Row, few bool) (l []Line, ok, all bool, err api.Errno) {
	x := &eliminator{few: few}
	defer func() {
		switch r := recover().(type) {
		case nil:
		case contradiction:
			l, ok, all, err = x.certificate(r.line), true, true, api.OK
		default: // tooMany
			l, ok, all, err = nil, false, false, api.ErrFuel
		}
	}()
	x.start(rows)
	for x.eliminate(unknowns(rows)) {
	}
	if x.large {
		return nil, false, !x.less, api.ErrLarge
	}
	return nil, false, !x.less, api.OK
}

// start makes the given rows, and the natural ones.
func (x *eliminator) start(rows []Row) {
	x.found = map[[MaxUnknowns]int]int{}
	one := func(i int) history {
		var h history
		h[i/64] = 1 << (i % 64)
		return h
	}
	for i, r := range rows {
		x.add(vectorOf(r), Line{Kind: Given, A: i}, one(i))
	}
	for i := range unknowns(rows) {
		x.add(natural(i), Line{Kind: Natural, A: i}, one(MaxRows+i))
	}
}

// write writes a line, and returns its index.
func (x *eliminator) write(l Line) int {
	x.lines = append(x.lines, l)
	return len(x.lines) - 1
}

// add keeps a row that a line makes, divided as far as it can be; of rows with the same coefficients the strongest one is kept.
func (x *eliminator) add(v vector, l Line, from history) {
	if !v.fits() {
		x.large = true
		return
	}
	g := divisor(v.coeffs[:])
	if g == 0 {
		if v.bound < 0 {
			panic(contradiction{x.write(l)})
		}
		return
	}
	line := x.write(l)
	if g > 1 && g <= MaxNumber {
		v, _ = divided(v, g)
		line = x.write(Line{Kind: Divided, A: line, M: g})
	}
	now := derivedRow{v, line, from}
	at, ok := x.found[v.coeffs]
	if !ok {
		x.found[v.coeffs] = len(x.rows)
		x.rows = append(x.rows, now)
		return
	}
	old := x.rows[at]
	if lesser(func(r derivedRow) int { return r.bound }, now, old) || now.bound == old.bound && lesser(func(r derivedRow) int { return r.from.count() }, now, old) {
		x.rows[at] = now
	}
}

// lesser reports whether what a function says of one value is less than what it says of another one.
func lesser[T any, K cmp.Ordered](key func(T) K, a, b T) bool { return key(a) < key(b) }

// divisor returns the greatest common divisor of numbers, 0 if all are 0.
func divisor(l []int) int {
	var gcd func(a, b int) int
	gcd = func(a, b int) int {
		if b == 0 {
			return a
		}
		return gcd(b, a%b)
	}
	g := 0
	for _, n := range l {
		g = gcd(g, max(n, -n))
	}
	return g
}

// eliminate eliminates the unknown of which this makes the fewest rows; false, if there is none left.
func (x *eliminator) eliminate(unknowns int) bool {
	best, least := -1, 0
	for i := range unknowns {
		up, down := x.signs(i)
		if more := up*down - up - down; up+down > 0 && (best < 0 || more < least) {
			best, least = i, more
		}
	}
	if best < 0 {
		return false
	}
	x.gone++
	old := x.rows
	x.rows, x.found = nil, map[[MaxUnknowns]int]int{}
	for _, r := range old {
		if r.coeffs[best] == 0 {
			x.found[r.coeffs] = len(x.rows)
			x.rows = append(x.rows, r)
		}
	}
	for a, b := range opposite(old, best) {
		x.combine(a, b, best)
	}
	return true
}

// signs returns how many rows have a positive coefficient of an unknown, and a negative one.
func (x *eliminator) signs(i int) (up, down int) {
	for _, r := range x.rows {
		switch c := r.coeffs[i]; {
		case c > 0:
			up++
		case c < 0:
			down++
		}
	}
	return up, down
}

// opposite yields the pairs of rows with a positive and a negative coefficient of an unknown.
func opposite(l []derivedRow, i int) iter.Seq2[derivedRow, derivedRow] {
	return func(yield func(a, b derivedRow) bool) {
		for _, a := range l {
			if a.coeffs[i] <= 0 {
				continue
			}
			for _, b := range l {
				if b.coeffs[i] < 0 && !yield(a, b) {
					return
				}
			}
		}
	}
}

// combine adds two rows so that an unknown vanishes.
func (x *eliminator) combine(a, b derivedRow, i int) {
	from := a.from.and(b.from)
	if x.few && from.count() > x.gone+1 {
		x.less = true
		return
	}
	p, n := a.coeffs[i], -b.coeffs[i]
	g := divisor([]int{p, n})
	m, k := n/g, p/g
	if m > MaxNumber || k > MaxNumber {
		x.large = true
		return
	}
	if x.sums++; x.sums > maxSums {
		panic(tooMany{})
	}
	x.add(sum(a.vector, b.vector, m, k), Line{Kind: Sum, A: a.line, B: b.line, M: m, N: k}, from)
}

// certificate returns the lines alone that one needs, with their new numbers.
func (x *eliminator) certificate(last int) []Line {
	needed := make([]bool, last+1)
	needed[last] = true
	for i, l := range slices.Backward(x.lines[:last+1]) {
		if !needed[i] {
			continue
		}
		if l.Kind == Sum || l.Kind == Divided {
			needed[l.A] = true
		}
		if l.Kind == Sum {
			needed[l.B] = true
		}
	}
	var out []Line
	at := make([]int, last+1)
	for i, l := range x.lines[:last+1] {
		if !needed[i] {
			continue
		}
		if l.Kind == Sum || l.Kind == Divided {
			l.A = at[l.A]
		}
		if l.Kind == Sum {
			l.B = at[l.B]
		}
		at[i] = len(out)
		out = append(out, l)
	}
	return out
}
