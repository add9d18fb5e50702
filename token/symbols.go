package token

import (
	"slices"
	"strings"
)

// written returns the signs that have a named symbol, each one with it.
func written() [][2]string {
	return [][2]string{
		{"==>", `\<Longrightarrow>`},
		{"-->", `\<longrightarrow>`},
		{"==", `\<equiv>`},
		{"=>", `\<Rightarrow>`},
		{"!!", `\<And>`},
		{"%", `\<lambda>`},
		{"&", `\<and>`},
		{"|", `\<or>`},
		{"~", `\<not>`},
		{"!", `\<forall>`},
	}
}

// Symbols returns a text in which names of symbols stand for ASCII signs, and Plain the way back.
func Symbols(text string) string { return replaced(text, 0, 1) }

func Plain(text string) string { return replaced(text, 1, 0) }

// replaced returns a text in which, from the left, the first of the written signs that it goes on with is replaced, one side of it by the other one.
func replaced(text string, from, to int) string {
	signs := written()
	var b strings.Builder
	for at := 0; at < len(text); {
		i := slices.IndexFunc(signs, func(w [2]string) bool { return strings.HasPrefix(text[at:], w[from]) })
		if i < 0 {
			b.WriteByte(text[at])
			at++
			continue
		}
		b.WriteString(signs[i][to])
		at += len(signs[i][from])
	}
	return b.String()
}
