package lex

import (
	"strings"

	"skerry/api"
)

// cursor is a place in a text.
type cursor struct {
	text string
	at   int
}

func (c *cursor) done() bool {
	return c.at >= len(c.text)
}

func (c *cursor) rest() string {
	return c.text[c.at:]
}

// window is as much of the rest as the rules of tokens look at.
func (c *cursor) window() string {
	return c.text[c.at:min(c.at+api.MaxReach, len(c.text))]
}

func (c *cursor) begins(s string) bool {
	return strings.HasPrefix(c.rest(), s)
}

// ahead is the byte n bytes behind the cursor. Behind the end it is 0, which no rule takes.
func (c *cursor) ahead(n int) byte {
	if c.at+n >= len(c.text) {
		return 0
	}
	return c.text[c.at+n]
}

func (c *cursor) piece(p api.Piece) string {
	return c.text[p.At : p.At+p.Len]
}
