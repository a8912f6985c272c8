package macro

import (
	"slices"

	"skerry/api"
)

// copied is a list of fragments in memory of its own.
func copied(l []api.Frag) []api.Frag {
	if len(l) == 0 {
		return nil
	}
	c := make([]api.Frag, len(l))
	for i, f := range l {
		c[i].Tok, c[i].Open = f.Tok, f.Open
		if f.Open != "" {
			c[i].Kids = copied(f.Kids)
		}
	}
	return c
}

func copiedBinds(binds []api.MacroBind) []api.MacroBind {
	c := slices.Clone(binds)
	for i := range c {
		c[i].Frags = copied(c[i].Frags)
	}
	return c
}

func copiedExpansion(x api.Expansion) api.Expansion {
	x.Binds = copiedBinds(x.Binds)
	return x
}

// unmark sets the marks of fragments to 0.
func unmark(l []api.Frag) {
	for i := range l {
		l[i].Tok.Mark = 0
		unmark(l[i].Kids)
	}
}

func equalExpansions(x, y api.Expansion) bool {
	same := x.Macro == y.Macro && x.Rule == y.Rule && x.Mark == y.Mark && x.At == y.At
	return same && slices.EqualFunc(x.Binds, y.Binds, equalBinds)
}

func equalBinds(a, b api.MacroBind) bool {
	return a.Name == b.Name && slices.EqualFunc(a.Frags, b.Frags, equal)
}

// equal tells whether two fragments are equal, At and Mark of their tokens included.
func equal(f, g api.Frag) bool {
	if f.Tok != g.Tok || f.Open != g.Open {
		return false
	}
	return f.Open == "" || slices.EqualFunc(f.Kids, g.Kids, equal)
}
