// Package lex is layer 1: it cuts texts into tokens, blanks and comments, and only around a change when a text has changed.
// It is specified in shared/doc/01-lex.md.
package lex

import (
	"slices"
	"strconv"
	"strings"

	"skerry/api"
)

// Pieces returns the pieces of a text, or an error and the beginning of the piece at which it was found.
func Pieces(text string) (l []api.Piece, at int, e api.Errno) {
	if len(text) > api.MaxText {
		return nil, 0, api.ErrLong
	}
	defer func() {
		if r, ok := recover().(refusal); ok {
			l, at, e = nil, r.at, r.e
		}
	}()
	for p := range newCutter(text).pieces() {
		l = append(l, p)
	}
	return l, 0, api.OK
}

// Scan returns the tokens among the pieces of a text.
func Scan(text string) ([]api.Token, int, api.Errno) {
	l, at, e := Pieces(text)
	if e != api.OK {
		return nil, at, e
	}
	var tokens []api.Token
	for _, p := range l {
		if isToken(p.Kind) {
			tokens = append(tokens, token(text, p))
		}
	}
	return tokens, 0, api.OK
}

func token(text string, p api.Piece) api.Token {
	t := api.Token{Kind: p.Kind, Text: text[p.At : p.At+p.Len], At: p.At}
	if p.Kind == api.TkNum {
		t.Num, _ = value(t.Text)
	}
	return t
}

// Change returns a text with a splice.
func Change(text string, s api.Splice) (string, api.Errno) {
	if s.At < 0 || s.At > len(text) || s.Del < 0 || s.Del > len(text)-s.At {
		return "", api.ErrArg
	}
	return text[:s.At] + s.Ins + text[s.At+s.Del:], api.OK
}

// Update returns the pieces of a text with a splice, and how many of them are among the pieces l of the text without it.
func Update(text string, l []api.Piece, s api.Splice) ([]api.Piece, api.Kept, int, api.Errno) {
	if old, _, e := Pieces(text); e != api.OK || !slices.Equal(old, l) {
		return nil, api.Kept{}, 0, api.ErrPieces
	}
	changed, e := Change(text, s)
	if e != api.OK {
		return nil, api.Kept{}, 0, e
	}
	if len(changed) > api.MaxText {
		return nil, api.Kept{}, 0, api.ErrLong
	}
	m, at, e := recut(text, l, s, changed)
	if e != api.OK {
		return nil, api.Kept{}, at, e
	}
	return m, kept(l, m, len(changed)-len(text)), 0, api.OK
}

// Kind returns the kind of the one token that s is as a whole, 0 if it is none.
func Kind(s string) (kind int) {
	defer func() {
		if _, ok := recover().(refusal); ok {
			kind = 0
		}
	}()
	c := newCutter(s)
	if c.done() {
		return 0
	}
	if p := c.next(); isToken(p.Kind) && p.Len == len(s) {
		return p.Kind
	}
	return 0
}

// IsName reports whether s is a name, plain or qualified.
func IsName(s string) bool {
	return Kind(s) == api.TkName
}

// IsPlain reports whether s is a plain name.
func IsPlain(s string) bool {
	return IsName(s) && strings.IndexByte(s, '@') < 0
}

// Split returns the parts of a qualified name; any other string and an empty one.
func Split(name string) (string, string) {
	if !IsName(name) {
		return name, ""
	}
	own, library, _ := strings.Cut(name, "@")
	return own, library
}

// Number returns the value of an integer.
func Number(s string) (int, api.Errno) {
	if Kind(s) != api.TkNum {
		return 0, api.ErrDigit
	}
	n, _ := value(s)
	return n, api.OK
}

// Digits returns the text of an integer.
func Digits(n int) string {
	return strconv.Itoa(n)
}

// Check returns OK for a valid token.
func Check(t api.Token) api.Errno {
	kind := Kind(t.Text)
	if kind == 0 || kind != t.Kind || t.At < 0 || t.Mark < 0 {
		return api.ErrToken
	}
	num := 0
	if kind == api.TkNum {
		num, _ = value(t.Text)
	}
	if num != t.Num {
		return api.ErrToken
	}
	return api.OK
}

// Join returns the texts of tokens with spaces between them; an empty string if one of them is not valid.
func Join(l []api.Token) string {
	texts := make([]string, len(l))
	for i, t := range l {
		if Check(t) != api.OK {
			return ""
		}
		texts[i] = t.Text
	}
	return strings.Join(texts, " ")
}

// Same reports whether two lists of tokens are equal but for At and Mark.
func Same(a, b []api.Token) bool {
	return slices.EqualFunc(a, b, func(x, y api.Token) bool {
		return x.Kind == y.Kind && x.Num == y.Num && x.Text == y.Text
	})
}

// Pattern returns the name and the kind of a valid pattern variable; empty strings for another token.
func Pattern(t api.Token) (name, kind string) {
	if t.Kind != api.TkPat || Check(t) != api.OK {
		return "", ""
	}
	name, kind, _ = strings.Cut(t.Text[1:], ":")
	return name, kind
}
