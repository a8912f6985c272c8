package fragment

import (
	"iter"

	"skerry/api"
)

// tokens yields the tokens of fragments, but for those of groups at a depth greater than MaxDeep.
func tokens(l []api.Frag) iter.Seq[api.Token] {
	return func(yield func(api.Token) bool) {
		walk(l, api.MaxDeep, yield)
	}
}

// walk yields the tokens of fragments, but for those of groups at a depth greater than most. It tells whether it may go on.
func walk(l []api.Frag, most int, yield func(api.Token) bool) bool {
	for _, f := range l {
		isGroup := f.Open != ""
		if isGroup && most == 0 {
			continue // its own tokens are as deep as it is
		}
		if !yield(f.Tok) {
			return false
		}
		if isGroup && !(walk(f.Kids, most-1, yield) && yield(closing(f))) {
			return false
		}
	}
	return true
}

// closing is the closing token of a group.
func closing(f api.Frag) api.Token {
	t := api.Token{Kind: api.TkSign, At: f.Tok.At, Mark: f.Tok.Mark}
	switch f.Open {
	case "(":
		t.Text = ")"
	case "[":
		t.Text = "]"
	case "{":
		t.Text = "}"
	default:
		t.Kind, t.Text = api.TkName, "end"
	}
	return t
}

// depth is the depth of the deepest group, if it is less than most; otherwise most. It looks no further, as there may be no end.
func depth(l []api.Frag, most int) int {
	d := 0
	for _, f := range l {
		if d == most {
			return d
		}
		if f.Open != "" {
			d = max(d, 1+depth(f.Kids, most-1))
		}
	}
	return d
}

// equal tells whether two lists of fragments are equal, with tokens that are held against each other by same.
func equal(a, b []api.Frag, same func(s, t api.Token) bool) bool {
	if len(a) != len(b) {
		return false
	}
	for i, f := range a {
		g := b[i]
		if f.Open != g.Open || !same(f.Tok, g.Tok) || !equal(f.Kids, g.Kids, same) {
			return false
		}
	}
	return true
}

func identical(s, t api.Token) bool {
	return s == t
}

func alike(s, t api.Token) bool {
	return s.Kind == t.Kind && s.Num == t.Num && s.Text == t.Text
}

// copied is a list of fragments in memory of its own.
func copied(l []api.Frag) []api.Frag {
	if len(l) == 0 {
		return nil
	}
	c := make([]api.Frag, len(l))
	for i, f := range l {
		c[i] = api.Frag{Tok: f.Tok, Open: f.Open, Kids: copied(f.Kids)}
	}
	return c
}
