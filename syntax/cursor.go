package syntax

import (
	"slices"

	"skerry/api"
	"skerry/lex"
)

// refusal is what a cursor panics with: the error, and the index of the token at which it was found.
type refusal struct {
	at int
	e  api.Errno
}

// cursor is a place among tokens. All tokens up to the place are valid, so that their texts tell their kinds.
type cursor struct {
	tokens []api.Token
	at     int
	now    api.Token // the token at the place; behind the last one a zero one
	exprs  int       // how many expressions, and operands of prefix operators, are around the place
	types  int       // how many types are around the place
}

func (c *cursor) refuse(e api.Errno) {
	panic(refusal{c.at, e})
}

// refuseForName refuses the token at a place where a name could stand.
func (c *cursor) refuseForName() {
	if IsReserved(c.now.Text) {
		c.refuse(api.ErrReserve)
	}
	c.refuse(api.ErrParse)
}

// move goes to the token with an index.
func (c *cursor) move(at int) {
	c.at, c.now = at, api.Token{}
	if c.ended() {
		return
	}
	c.now = c.tokens[at]
	if lex.Check(c.now) != api.OK {
		c.refuse(api.ErrParse)
	}
}

func (c *cursor) ended() bool {
	return c.at == len(c.tokens)
}

// take goes on by a token that can stand at the place. Here, and not ahead, it is refused if it is too deep: one that cannot stand there is refused for that.
func (c *cursor) take() api.Token {
	if c.exprs > 2*api.MaxDeep || c.types > 2*api.MaxDeep {
		c.refuse(api.ErrDeep)
	}
	t := c.now
	c.move(c.at + 1)
	return t
}

// is tells whether the token is one of some words and signs.
func (c *cursor) is(texts ...string) bool {
	return slices.Contains(texts, c.now.Text)
}

// accept takes a word or sign, if it is there.
func (c *cursor) accept(text string) bool {
	if !c.is(text) {
		return false
	}
	c.take()
	return true
}

// expect takes a word or sign that has to be there.
func (c *cursor) expect(text string) {
	if !c.accept(text) {
		c.refuse(api.ErrParse)
	}
}

// name takes a name that is no reserved word.
func (c *cursor) name() string {
	if c.now.Kind != api.TkName || IsReserved(c.now.Text) {
		c.refuseForName()
	}
	return c.take().Text
}

// key takes a keyword, and returns it without its colon.
func (c *cursor) key() string {
	if c.now.Kind != api.TkKey {
		c.refuse(api.ErrParse)
	}
	text := c.take().Text
	return text[:len(text)-1]
}

func (c *cursor) integer() int {
	if c.now.Kind != api.TkNum {
		c.refuse(api.ErrParse)
	}
	return c.take().Num
}

// several parses items with commas between them.
func (c *cursor) several(item func()) {
	item()
	for c.accept(",") {
		item()
	}
}

// list parses items with commas between them, or none, in parentheses.
func (c *cursor) list(item func()) {
	c.expect("(")
	if !c.is(")") {
		c.several(item)
	}
	c.expect(")")
}
