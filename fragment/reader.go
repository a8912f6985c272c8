package fragment

import (
	"skerry/api"
	"skerry/lex"
)

// refusal is what a reader panics with: the error, and the index of a token.
type refusal struct {
	at int
	e  api.Errno
}

// group is a group that is not closed yet, and the index of the token that opened it.
type group struct {
	api.Frag
	at int
}

// reader goes through tokens from the left.
type reader struct {
	tokens []api.Token
	at     int               // the index of the token that is read
	behind int               // the index behind the tokens that are dropped
	open   []group           // the innermost one is the last; the first one, with no opening, holds the result
	closes map[string]func() // by the opening of a group: closes the innermost one
}

func newReader(l []api.Token, words []string) *reader {
	r := &reader{tokens: l, open: make([]group, 1)}
	r.closes = map[string]func(){
		"(": r.close, "[": r.close, "{": r.close,
		"begin": r.close, "if": r.close, "block": r.close,
		"method": r.closeNamed, "class": r.closeNamed, "macro": r.closeNamed,
	}
	for _, w := range words {
		r.closes[w] = r.close
	}
	return r
}

// read returns the fragments of all tokens.
func (r *reader) read() []api.Frag {
	for i, t := range r.tokens {
		r.at = i
		if lex.Check(t) != api.OK {
			r.refuse(api.ErrToken)
		}
		switch {
		case i < r.behind: // it is dropped
		case r.opens(t):
			r.begin(t)
		case among(t.Text, ")", "]", "}", "end"):
			r.end(t)
		default:
			r.add(api.Frag{Tok: t})
		}
	}
	if len(r.open) > 1 {
		r.at = r.innermost().at
		r.refuse(api.ErrOpen)
	}
	return r.open[0].Kids
}

func (r *reader) refuse(e api.Errno) {
	panic(refusal{r.at, e})
}

func (r *reader) innermost() *group {
	return &r.open[len(r.open)-1]
}

func (r *reader) add(f api.Frag) {
	g := r.innermost()
	g.Kids = append(g.Kids, f)
}

// opens tells whether the token that is read opens a group. As it is valid, its text tells its kind.
func (r *reader) opens(t api.Token) bool {
	if r.closes[t.Text] == nil {
		return false
	}
	if t.Kind != api.TkName {
		return true
	}
	g := r.innermost()
	named := g.Open == "macro" && g.at == r.at-1
	return !named && !(t.Text == "class" && r.isName(r.at+1, "slot"))
}

func (r *reader) begin(t api.Token) {
	if len(r.open) > api.MaxDeep {
		r.refuse(api.ErrDeep)
	}
	r.open = append(r.open, group{api.Frag{Tok: t, Open: t.Text}, r.at})
}

func (r *reader) end(t api.Token) {
	g := r.innermost()
	if g.Open == "" || closing(g.Frag).Text != t.Text {
		r.refuse(api.ErrStray)
	}
	r.closes[g.Open]()
}

// close makes the innermost group a fragment of the one around it.
func (r *reader) close() {
	f := r.innermost().Frag
	r.open = r.open[:len(r.open)-1]
	r.add(f)
}

// closeNamed closes a group behind whose end its word and its name may stand once more.
func (r *reader) closeNamed() {
	f := r.innermost().Frag
	r.close()
	i := r.at + 1
	if r.isName(i, f.Open) {
		i++
	}
	if name, ok := nameOf(f); ok && r.isName(i, name) {
		i++
	}
	if r.isStop(i) {
		r.behind = i
	}
}

// nameOf is the name with which the fragments of a group begin.
func nameOf(f api.Frag) (string, bool) {
	if len(f.Kids) == 0 || f.Kids[0].Open != "" || f.Kids[0].Tok.Kind != api.TkName {
		return "", false
	}
	return f.Kids[0].Tok.Text, true
}

// isName tells whether the token with an index, which may not be checked yet, is a name.
func (r *reader) isName(i int, name string) bool {
	return i < len(r.tokens) && r.tokens[i].Kind == api.TkName && r.tokens[i].Text == name
}

func (r *reader) isStop(i int) bool {
	if i == len(r.tokens) || r.isName(i, "end") {
		return true
	}
	t := r.tokens[i]
	return t.Kind == api.TkSign && among(t.Text, ";", ",", ")", "]", "}")
}
