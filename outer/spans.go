package outer

import (
	"triforium/api"
	"triforium/token"
)

// Spans returns the spans of a text: together they are the text.
func Spans(text string) []Span {
	if text == "" {
		return nil
	}
	if len(text) > api.MaxText {
		return []Span{{To: len(text)}}
	}
	return spansOf(tokensOf(text), len(text))
}

// tokensOf returns the tokens of a text, whatever it is: a byte at which there is an error stands between them.
func tokensOf(text string) []token.Token {
	words := keywords()
	var out []token.Token
	for from := 0; ; {
		l, at, e := token.Scan(words, text[from:])
		if e != api.OK {
			l, _, _ = token.Scan(words, text[from:from+at])
		}
		for _, t := range l {
			t.At += from
			out = append(out, t)
		}
		if e == api.OK {
			return out
		}
		from += at + 1
	}
}

// spansOf returns the spans of a text of some length with some tokens.
func spansOf(l []token.Token, length int) []Span {
	var out []Span
	last := Span{}
	for _, t := range l {
		if !isWord(t) {
			continue
		}
		last.To = t.At
		if last.At < last.To {
			out = append(out, last)
		}
		last = Span{Word: t.Text, At: t.At}
	}
	last.To = length
	if last.At < last.To {
		out = append(out, last)
	}
	return out
}

// Edited returns the spans of a text in which some bytes were replaced, by those that it had; and how many of them are new.
func Edited(old []Span, text string, at, removed int, inserted string) ([]Span, int, api.Errno) {
	if len(text) > api.MaxText {
		return nil, 0, api.ErrLarge
	}
	if at < 0 || removed < 0 || at > len(text) || removed > len(text)-at {
		return nil, 0, api.ErrRange
	}
	if len(text)-removed+len(inserted) > api.MaxText {
		return nil, 0, api.ErrLarge
	}
	if !equalSpans(old, Spans(text)) {
		return nil, 0, api.ErrArgument
	}
	out := Spans(text[:at] + inserted + text[at+removed:])
	return out, newSpans(old, out, at, removed, len(inserted)-removed), api.OK
}

func equalSpans(a, b []Span) bool {
	if len(a) != len(b) {
		return false
	}
	for i := range a {
		if a[i] != b[i] {
			return false
		}
	}
	return true
}

// newSpans returns how many spans are new: neither the first ones of old, as far as the place of a change, nor the last ones of old, moved, from behind it on.
func newSpans(old, l []Span, at, removed, moved int) int {
	first, last := 0, 0
	both := min(len(old), len(l))
ends:
	for first+last < both {
		a, b := old[first], old[len(old)-1-last]
		switch {
		case l[first] == a && a.To <= at:
			first++
		case l[len(l)-1-last] == Span{b.Word, b.At + moved, b.To + moved} && b.At >= at+removed:
			last++
		default:
			break ends
		}
	}
	return len(l) - first - last
}
