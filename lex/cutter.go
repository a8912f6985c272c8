package lex

import (
	"iter"
	"strconv"
	"strings"

	"skerry/api"
)

// refusal is what a cutter panics with: the error, and the beginning of the piece at which it was found.
type refusal struct {
	at int
	e  api.Errno
}

// cutter cuts a text from the cursor on. What it cuts depends on the pieces ahead only by operand and tokens.
type cutter struct {
	cursor
	operand bool // the last token ends an operand, so that a - behind it is a sign
	tokens  int
}

func newCutter(text string) *cutter {
	return &cutter{cursor: cursor{text: text}}
}

// pieces yields the pieces from the cursor on.
func (c *cutter) pieces() iter.Seq[api.Piece] {
	return func(yield func(api.Piece) bool) {
		for !c.done() {
			p := c.next()
			c.pass(p)
			if !yield(p) {
				return
			}
		}
	}
}

// pass moves the cursor behind a piece that begins there.
func (c *cutter) pass(p api.Piece) {
	if isToken(p.Kind) {
		if c.tokens == api.MaxTokens {
			panic(refusal{p.At, api.ErrLong})
		}
		c.tokens++
		c.operand = endsOperand(p.Kind, c.piece(p))
	}
	c.at = p.At + p.Len
}

// next is the piece at the cursor.
func (c *cutter) next() api.Piece {
	switch {
	case c.begins("//"):
		return api.Piece{Kind: api.PcComment, At: c.at, Len: c.line()}
	case c.begins("/*"):
		return api.Piece{Kind: api.PcComment, At: c.at, Len: c.nested()}
	case isBlank(c.ahead(0)):
		return api.Piece{Kind: api.PcBlank, At: c.at, Len: c.blanks()}
	}
	p := c.longest()
	if e := c.fault(p); e != api.OK {
		panic(refusal{c.at, e})
	}
	return p
}

// longest is the token of the rule that takes the most bytes, a piece of the kind 0 if no rule applies.
func (c *cutter) longest() api.Piece {
	p := api.Piece{At: c.at}
	for _, r := range rules() {
		if n := r.take(c); n > p.Len {
			p.Kind, p.Len = r.kind, n
		}
	}
	return p
}

// fault says what is wrong with what longest returned. An integer of MaxReach bytes needs no rule of its own: it has no value.
func (c *cutter) fault(p api.Piece) api.Errno {
	behind := c.ahead(p.Len)
	switch p.Kind {
	case api.TkNum:
		if _, ok := value(c.piece(p)); !ok || spoilsDigits(behind) {
			return api.ErrDigit
		}
	case api.TkHash:
		if classesOf(behind)[inName] {
			return api.ErrHash
		}
	case api.TkName, api.TkKey, api.TkPat:
		if p.Len > api.MaxName {
			return api.ErrLong
		}
	case 0:
		if c.ahead(0) == '#' {
			return api.ErrHash
		}
		return api.ErrByte
	}
	return api.OK
}

// spoilsDigits tells whether a byte may not directly follow an integer.
func spoilsDigits(b byte) bool {
	return classesOf(b)[letter] || strings.IndexByte("_?!$", b) >= 0
}

func (c *cutter) blanks() int {
	n := 1
	for isBlank(c.ahead(n)) {
		n++
	}
	return n
}

// line is the length of a comment up to the end of the line.
func (c *cutter) line() int {
	rest := c.rest()
	if n := strings.IndexByte(rest, '\n'); n >= 0 {
		return n
	}
	return len(rest)
}

// nested is the length of a comment that may have others within it.
func (c *cutter) nested() int {
	rest := c.rest()
	open := 0
	for i := 0; i < len(rest); {
		switch rest[i:min(i+2, len(rest))] {
		case "/*":
			i += 2
			open++
			if open > api.MaxDeep {
				panic(refusal{c.at, api.ErrDeep})
			}
		case "*/":
			i += 2
			open--
			if open == 0 {
				return i
			}
		default:
			i++
		}
	}
	panic(refusal{c.at, api.ErrComment})
}

func isToken(kind int) bool {
	return api.TkName <= kind && kind <= api.TkPat
}

func endsOperand(kind int, text string) bool {
	switch kind {
	case api.TkName, api.TkNum, api.TkHash:
		return true
	}
	return text == ")" || text == "]"
}

// value is the value of the digits of an integer, if they are canonical and in the range of int.
func value(digits string) (int, bool) {
	n, err := strconv.Atoi(digits)
	if err != nil || Digits(n) != digits {
		return 0, false
	}
	return n, true
}
