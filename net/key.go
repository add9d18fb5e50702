package net

import (
	"strconv"
	"strings"

	"triforium/api"
)

// star is the text of a term that is not rigid.
const star = "*"

// Key returns the key of a term.
func Key(t api.Term) []string {
	var key []string
	var read func(t *api.Term)
	read = func(t *api.Term) {
		text, args := look(t)
		key = append(key, text)
		for _, a := range args {
			read(a)
		}
	}
	read(&t)
	return key
}

// look returns the first text of the key of a term, and the arguments whose keys stand behind it.
func look(t *api.Term) (string, []*api.Term) {
	head, args := spine(t)
	text := ""
	switch head.Op {
	case api.Const:
		text = "c" + head.Name
	case api.Free:
		text = "f" + head.Name
	case api.Bound:
		text = "b" + strconv.Itoa(head.Num)
	default:
		return star, nil
	}
	return text + "/" + strconv.Itoa(len(args)), args
}

// spine returns the head and the arguments of a term.
func spine(t *api.Term) (*api.Term, []*api.Term) {
	n := 0
	for k := t; k.Op == api.App && len(k.Kids) == 2; k = &k.Kids[0] {
		n++
	}
	args := make([]*api.Term, n)
	for n > 0 {
		n--
		args[n] = &t.Kids[1]
		t = &t.Kids[0]
	}
	return t, args
}

// isAny reports whether a term is neither rigid nor flexible.
func isAny(t *api.Term) bool {
	head, _ := spine(t)
	return head.Op < api.Const || head.Op > api.Bound
}

// arguments returns how many arguments a text of a key has.
func arguments(text string) int {
	i := strings.LastIndexByte(text, '/')
	if i < 0 {
		return 0
	}
	n, _ := strconv.Atoi(text[i+1:])
	return n
}
