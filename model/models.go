package model

import (
	"iter"
	"slices"

	"triforium/api"
	"triforium/types"
)

const (
	maxElements = 3    // of the carriers of Models
	maxListed   = 1000 // models that Models returns
	maxModels   = 100  // among which it looks for them
)

// Models returns the models, in order, in which all axioms hold: types without arguments have from 1 to size elements, the other constants of types without variables each element.
func Models(thy api.Theory, size, most int) (out []Model, err api.Errno) {
	defer func() {
		if r := recover(); r != nil {
			out, err = nil, errorOf(r)
		}
	}()
	l := newLanguage(thy)
	want(size >= 1 && size <= maxElements && most >= 1 && most <= maxListed, api.ErrRange)
	f := newFamily(l)
	f.checkNumber(size)
	for m := range f.models(size) {
		if l.with(m).failing() == "" {
			out = append(out, m)
		}
		if len(out) == most {
			break
		}
	}
	return out, api.OK
}

// family has what the models of a theory differ in.
type family struct {
	language
	carriers []string        // the type constructors whose numbers of elements differ
	tables   []api.ConstDecl // the constants whose elements differ
	ground   []string
}

// newFamily panics with ErrModel for a theory that has none.
func newFamily(l language) family {
	f := family{language: l}
	for _, d := range l.thy.Types {
		if d.Name == "fun" {
			continue
		}
		want(d.Arity == 0, ErrModel)
		if d.Name != "prop" && len(f.ground) < MaxGround {
			f.ground = append(f.ground, d.Name)
		}
		if d.Name != "prop" && d.Name != "bool" {
			f.carriers = append(f.carriers, d.Name)
		}
	}
	for _, c := range l.thy.Consts {
		if l.isGiven(c.Name) {
			want(len(types.Variables(c.Type)) == 0, ErrModel)
			f.tables = append(f.tables, c)
		}
	}
	return f
}

// checkNumber panics, if a table would be too large, or if there are too many models.
func (f family) checkNumber(size int) {
	greatest := slices.Repeat([]int{size - 1}, len(f.carriers))
	for _, n := range f.counts(greatest) {
		want(n <= MaxSize, api.ErrLarge)
	}
	total := uint64(0)
	for list := range lists(slices.Repeat([]int{size}, len(f.carriers))) {
		total = sum(total, product(f.counts(list)))
		want(total <= maxModels, api.ErrLarge)
	}
}

// counts returns how many elements the types of the tables have, if the carriers have one more than a list says.
func (f family) counts(list []int) []uint64 {
	w := f.with(f.model(list))
	var out []uint64
	for _, c := range f.tables {
		out = append(out, w.size(w.intern(c.Type, nil)))
	}
	return out
}

// model returns a model without meanings, whose carriers have one element more than a list says.
func (f family) model(list []int) Model {
	var m Model
	for i, name := range f.carriers {
		m.Carriers = append(m.Carriers, Carrier{Name: name, Cases: make([][]api.Type, list[i]+1)})
	}
	for _, name := range f.ground {
		m.Ground = append(m.Ground, api.Type{Op: api.TCon, Name: name})
	}
	return m
}

// models yields the models, each one in new memory.
func (f family) models(size int) iter.Seq[Model] {
	return func(yield func(Model) bool) {
		for list := range lists(slices.Repeat([]int{size}, len(f.carriers))) {
			var counts []int
			for _, n := range f.counts(list) {
				counts = append(counts, int(n))
			}
			for values := range lists(counts) {
				m := f.model(list)
				for i, c := range f.tables {
					m.Meanings = append(m.Meanings, Meaning{Name: c.Name, How: Table, Value: values[i]})
				}
				if !yield(m) {
					return
				}
			}
		}
	}
}
