package syntax

import (
	"skerry/api"
	"skerry/lex"
)

// parser parses tokens: it has a method for each rule of the grammar.
type parser struct {
	cursor
	scope map[variable]int // how many bindings of a variable the place is in the scope of
}

// variable is a name that is bound, with the mark of its token.
type variable struct {
	text string
	mark int
}

func (v variable) name() string {
	if v.mark == 0 {
		return v.text
	}
	return v.text + "@" + lex.Digits(v.mark)
}

// parse returns what a rule makes of all tokens, if nothing is wrong with it; or an error and the index of a token.
func parse[T any](l []api.Token, rule func(*parser) T, check func(T) api.Errno) (result T, at int, e api.Errno) {
	if len(l) > api.MaxTokens {
		return result, 0, api.ErrLong
	}
	defer func() {
		if r, ok := recover().(refusal); ok {
			at, e = r.at, r.e
		}
	}()
	p := &parser{cursor: cursor{tokens: l}, scope: map[variable]int{}}
	p.move(0)
	tree := rule(p)
	if !p.ended() {
		p.refuse(api.ErrParse)
	}
	if e := check(tree); e != api.OK {
		p.refuse(e)
	}
	return tree, 0, api.OK
}

// within parses a part that is in the scope of variables.
func (p *parser) within(bound []variable, part func() api.Expr) api.Expr {
	for _, v := range bound {
		p.scope[v]++
	}
	e := part()
	for _, v := range bound {
		p.scope[v]--
	}
	return e
}

// variable takes the name of a variable. A mark would be lost in one that is qualified.
func (p *parser) variable() variable {
	t := p.now
	if t.Kind == api.TkName && t.Mark > 0 && !lex.IsPlain(t.Text) {
		p.refuse(api.ErrParse)
	}
	return variable{p.name(), t.Mark}
}

// reference parses a name in an expression.
func (p *parser) reference() api.Expr {
	v := p.variable()
	if v.mark > 0 && p.scope[v] == 0 {
		return named(globalName(v.text))
	}
	return named(v.name())
}

// globalName is how a name with a mark is written that denotes no variable.
func globalName(text string) string {
	return text + "@0"
}
