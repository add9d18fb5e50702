package checker

import (
	"cmp"
	"slices"
	"strings"

	"triforium/api"
)

// maxIndex is the greatest index of a schematic variable.
const maxIndex = 1000000

// language is what a right theory says of types and terms.
type language struct {
	above   map[string]map[string]bool // all classes above a class, and itself
	numbers map[string]int             // of the arguments of type constructors
	arities map[arity][][]string
	consts  map[string]*api.Type
	axioms  map[string]*api.Term
	oracles map[string]bool
}

// arity is what the sorts of arguments are found by.
type arity struct {
	name, class string
}

func newLanguage(thy *api.Theory) *language {
	l := &language{map[string]map[string]bool{}, map[string]int{}, map[arity][][]string{}, map[string]*api.Type{}, map[string]*api.Term{}, map[string]bool{}}
	for _, c := range thy.Classes {
		up := map[string]bool{c.Name: true}
		for _, s := range c.Supers { // these stand ahead of the class
			for k := range l.above[s] {
				up[k] = true
			}
		}
		l.above[c.Name] = up
	}
	for _, d := range thy.Types {
		l.numbers[d.Name] = d.Arity
	}
	for _, a := range thy.Arities {
		l.arities[arity{a.Type, a.Class}] = a.Sorts
	}
	for i := range thy.Consts {
		l.consts[thy.Consts[i].Name] = &thy.Consts[i].Type
	}
	for i := range thy.Axioms {
		l.axioms[thy.Axioms[i].Name] = &thy.Axioms[i].Prop
	}
	for _, o := range thy.Oracles {
		l.oracles[o] = true
	}
	return l
}

// isName reports whether a text is a name.
func isName(s string) bool {
	for i := range len(s) {
		letter := 'a' <= s[i] && s[i] <= 'z' || 'A' <= s[i] && s[i] <= 'Z' || s[i] == '_'
		if !letter && (i == 0 || !strings.ContainsRune("0123456789'.", rune(s[i]))) {
			return false
		}
	}
	return len(s) > 0 && len(s) <= api.MaxName
}

// limit counts the nodes of a type or a term, and leaves the checker, if there are too many, or too many within each other.
type limit struct {
	left int // how many nodes there still may be
}

// meet counts some nodes, of which the deepest one stands within a number of nodes, itself among them.
func (l *limit) meet(n, depth int) {
	l.left -= n
	want(l.left >= 0 && depth <= api.MaxDepth)
}

// checkType leaves the checker, if a type is not one of the theory.
func (l *language) checkType(t *api.Type) {
	l.typeBelow(t, &limit{api.MaxType}, 1)
	v := variables{}
	v.addType(t)
}

// typeBelow leaves the checker, if a type is not one of the theory, but for the sorts of its variables, which may differ.
func (l *language) typeBelow(t *api.Type, size *limit, depth int) {
	size.meet(1, depth)
	switch t.Op {
	case api.TCon:
		n, ok := l.numbers[t.Name]
		want(ok && n == len(t.Args) && t.Index == 0 && len(t.Sort) == 0)
	case api.TFree:
		want(isName(t.Name) && t.Index == 0 && len(t.Args) == 0)
	case api.TVar:
		want(isName(t.Name) && t.Index >= 0 && t.Index <= maxIndex && len(t.Args) == 0)
	default:
		nothing()
	}
	l.checkSort(t.Sort)
	for i := range t.Args {
		l.typeBelow(&t.Args[i], size, depth+1)
	}
}

// checkSort leaves the checker, if a sort is not a normal one of the theory.
func (l *language) checkSort(s []string) {
	want(len(s) <= api.MaxSort)
	for i, c := range s {
		want(l.above[c] != nil && (i == 0 || s[i-1] < c))
		for k, d := range s {
			want(i == k || !l.above[d][c])
		}
	}
}

// has reports whether a type of the theory has all of some classes.
func (l *language) has(t *api.Type, s []string) bool {
	if t.Op != api.TCon {
		for _, c := range s {
			if !slices.ContainsFunc(t.Sort, func(d string) bool { return l.above[d][c] }) {
				return false
			}
		}
		return true
	}
	wanted := make([][]string, len(t.Args))
	for _, c := range s {
		sorts, ok := l.arities[arity{t.Name, c}]
		if !ok {
			return false
		}
		for i := range wanted {
			wanted[i] = append(wanted[i], sorts[i]...)
		}
	}
	for i := range wanted {
		slices.Sort(wanted[i])
		if len(wanted[i]) > 0 && !l.has(&t.Args[i], slices.Compact(wanted[i])) {
			return false
		}
	}
	return true
}

// binding is what a variable of a declared type stands for.
type binding struct {
	name string
	typ  *api.Type
}

// isInstance reports whether a type is an instance of a declared one, where some variables stand for types already.
func (l *language) isInstance(declared, t *api.Type, known *[]binding) bool {
	if declared.Op == api.TVar {
		for _, b := range *known {
			if b.name == declared.Name {
				return compareTypes(b.typ, t) == 0
			}
		}
		*known = append(*known, binding{declared.Name, t})
		return l.has(t, declared.Sort)
	}
	if t.Op != api.TCon || declared.Name != t.Name {
		return false
	}
	for i := range declared.Args {
		if !l.isInstance(&declared.Args[i], &t.Args[i], known) {
			return false
		}
	}
	return true
}

// checkTerm returns the type of a term, and leaves the checker, if it is not a right one of the theory.
func (l *language) checkTerm(t *api.Term) *api.Type {
	k := l.typeOf(t, nil, &limit{api.MaxTerm}, 1)
	v := variables{}
	v.addTerm(t)
	return k
}

// typeOf returns the type of a term within abstractions of some types, the outermost one first. It leaves the checker, if the term is not right, but for the sorts and types of its variables, which may differ.
func (l *language) typeOf(t *api.Term, around []*api.Type, size *limit, depth int) *api.Type {
	size.meet(1, depth)
	switch t.Op {
	case api.Const, api.Free, api.Var:
		l.checkLeaf(t)
		return &t.Type
	case api.Bound:
		want(t.Name == "" && isNoType(&t.Type) && len(t.Kids) == 0 && t.Num >= 0 && t.Num < len(around))
		return around[len(around)-1-t.Num]
	case api.Abs:
		want((t.Name == "" || isName(t.Name)) && t.Num == 0 && len(t.Kids) == 1)
		l.typeBelow(&t.Type, &limit{api.MaxType}, 1)
		return fun(&t.Type, l.typeOf(&t.Kids[0], append(around, &t.Type), size, depth+1))
	case api.App:
		want(t.Name == "" && t.Num == 0 && isNoType(&t.Type) && len(t.Kids) == 2)
		f := l.typeOf(&t.Kids[0], around, size, depth+1)
		a := l.typeOf(&t.Kids[1], around, size, depth+1)
		want(isFun(f) && compareTypes(&f.Args[0], a) == 0)
		return &f.Args[1]
	}
	nothing()
	return nil
}

// checkLeaf leaves the checker, if a constant or a variable is not right by itself.
func (l *language) checkLeaf(t *api.Term) {
	want(isName(t.Name) && len(t.Kids) == 0)
	want(t.Num == 0 || t.Op == api.Var && t.Num > 0 && t.Num <= maxIndex)
	l.typeBelow(&t.Type, &limit{api.MaxType}, 1)
	if t.Op == api.Const {
		declared, ok := l.consts[t.Name]
		want(ok && l.isInstance(declared, &t.Type, &[]binding{}))
	}
}

func isNoType(t *api.Type) bool {
	return t.Op == 0 && t.Name == "" && t.Index == 0 && len(t.Sort) == 0 && len(t.Args) == 0
}

func fun(a, b *api.Type) *api.Type {
	return &api.Type{Op: api.TCon, Name: "fun", Args: []api.Type{*a, *b}}
}

func isFun(t *api.Type) bool { return t.Op == api.TCon && t.Name == "fun" }

func isProp(t *api.Type) bool { return t.Op == api.TCon && t.Name == "prop" }

// compareTypes is the order of types.
func compareTypes(a, b *api.Type) int {
	if a == b {
		return 0
	}
	if k := cmp.Or(cmp.Compare(a.Op, b.Op), strings.Compare(a.Name, b.Name), cmp.Compare(a.Index, b.Index)); k != 0 {
		return k
	}
	if k := compareLists(a.Sort, b.Sort, compareStrings); k != 0 {
		return k
	}
	return compareLists(a.Args, b.Args, compareTypes)
}

// compareTerms is the order of terms, in which the names of abstractions play no part.
func compareTerms(a, b *api.Term) int {
	if a == b {
		return 0
	}
	if a.Op != b.Op {
		return cmp.Compare(a.Op, b.Op)
	}
	if k := strings.Compare(a.Name, b.Name); k != 0 && a.Op != api.Abs {
		return k
	}
	if k := cmp.Compare(a.Num, b.Num); k != 0 {
		return k
	}
	if k := compareTypes(&a.Type, &b.Type); k != 0 {
		return k
	}
	return compareLists(a.Kids, b.Kids, compareTerms)
}

// variable is what tells a variable, of types or of terms, from others, but for its sort or type.
type variable struct {
	ofTerms bool
	kind    int
	name    string
	index   int
}

// standing is the sort of a type variable, or the type of a variable.
type standing struct {
	sort []string
	typ  *api.Type
}

// variables has the sorts and types of variables; it leaves the checker, if one is met with two.
type variables map[variable]standing

func (v variables) addType(t *api.Type) {
	if t.Op == api.TFree || t.Op == api.TVar {
		k := variable{false, t.Op, t.Name, t.Index}
		old, ok := v[k]
		want(!ok || slices.Equal(old.sort, t.Sort))
		v[k] = standing{sort: t.Sort}
	}
	for i := range t.Args {
		v.addType(&t.Args[i])
	}
}

func (v variables) addTerm(t *api.Term) {
	v.addType(&t.Type)
	if t.Op == api.Free || t.Op == api.Var {
		k := variable{true, t.Op, t.Name, t.Num}
		old, ok := v[k]
		want(!ok || compareTypes(old.typ, &t.Type) == 0)
		v[k] = standing{typ: &t.Type}
	}
	for i := range t.Kids {
		v.addTerm(&t.Kids[i])
	}
}

func (v variables) addFact(f fact) {
	for _, h := range f.hyps {
		v.addTerm(h)
	}
	v.addTerm(f.prop)
}
