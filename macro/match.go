package macro

import (
	"skerry/api"
	"skerry/lex"
)

// taker returns how many fragments the first one of a pattern takes from a list; not ok if it does not match.
type taker func(m *matcher, pattern, l []api.Frag) (n int, ok bool)

// matcher matches lists with patterns.
type matcher struct {
	takers map[string]taker // by the kinds of a pattern's fragments
	binds  []api.MacroBind  // what the variables so far have taken
}

func newMatcher() *matcher {
	return &matcher{takers: map[string]taker{
		"":           (*matcher).same,
		"group":      (*matcher).group,
		"name":       (*matcher).name,
		"token":      (*matcher).token,
		"expression": (*matcher).expression,
		"body":       (*matcher).body,
	}}
}

// bindings returns what the variables of a pattern take from a list, in the memory of the list.
func (m *matcher) bindings(pattern, l []api.Frag) ([]api.MacroBind, bool) {
	m.binds = nil
	if !m.match(pattern, l) {
		return nil, false
	}
	return m.binds, true
}

func (m *matcher) match(pattern, l []api.Frag) bool {
	for i, p := range pattern {
		name, kind := lex.Pattern(p.Tok)
		if p.Open != "" {
			kind = "group"
		}
		n, ok := m.takers[kind](m, pattern[i:], l)
		if !ok {
			return false
		}
		if name != "" {
			m.binds = append(m.binds, api.MacroBind{Name: name, Frags: l[:n]})
		}
		l = l[n:]
	}
	return len(l) == 0
}

// same takes the token of the pattern.
func (m *matcher) same(pattern, l []api.Frag) (int, bool) {
	p := pattern[0].Tok
	return 1, len(l) > 0 && isToken(l[0], p.Kind, p.Text)
}

func (m *matcher) group(pattern, l []api.Frag) (int, bool) {
	return 1, len(l) > 0 && l[0].Open == pattern[0].Open && m.match(pattern[0].Kids, l[0].Kids)
}

func (m *matcher) name(_, l []api.Frag) (int, bool) {
	return 1, len(l) > 0 && l[0].Open == "" && l[0].Tok.Kind == api.TkName
}

func (m *matcher) token(_, l []api.Frag) (int, bool) {
	return 1, len(l) > 0 && l[0].Open == ""
}

func (m *matcher) expression(pattern, l []api.Frag) (int, bool) {
	stops := []api.Token{
		{Kind: api.TkSign, Text: ","},
		{Kind: api.TkSign, Text: ";"},
		{Kind: api.TkSign, Text: "=>"},
	}
	n := upTo(l, append(stops, stop(pattern)...))
	return n, n > 0
}

func (m *matcher) body(pattern, l []api.Frag) (int, bool) {
	return upTo(l, stop(pattern)), true
}

// stop is the token at which the variable ends with which a pattern begins, if there is one.
func stop(pattern []api.Frag) []api.Token {
	if len(pattern) == 1 {
		return nil
	}
	return []api.Token{pattern[1].Tok}
}

// upTo is the number of fragments ahead of the first one that is one of some tokens.
func upTo(l []api.Frag, stops []api.Token) int {
	n := 0
list:
	for ; n < len(l); n++ {
		for _, s := range stops {
			if isToken(l[n], s.Kind, s.Text) {
				break list
			}
		}
	}
	return n
}
