package lex

import "skerry/api"

// rule is a rule of the lexical grammar: take returns how many bytes it takes at the cursor, 0 if it does not apply.
type rule struct {
	kind int
	take func(*cutter) int
}

// rules lists the rules of tokens in the order of the chapter's table, which decides between those that take as many bytes.
// No rule has to give way to names: where a name begins, no rule but that of keywords takes as many bytes as the name.
func rules() [6]rule {
	return [6]rule{
		{api.TkName, (*cutter).name},
		{api.TkNum, (*cutter).integer},
		{api.TkKey, (*cutter).keyword},
		{api.TkHash, (*cutter).hash},
		{api.TkSign, (*cutter).sign},
		{api.TkPat, (*cutter).pattern},
	}
}

func (c *cutter) name() int {
	w := c.window()
	n := plain(w)
	if n == 0 {
		return 0
	}
	return n + library(w[n:])
}

func (c *cutter) integer() int {
	w := c.window()
	sign := 0
	if c.ahead(0) == '-' && !c.operand {
		sign = 1
	}
	digits := run(w[sign:], digit)
	if digits == 0 {
		return 0
	}
	return sign + digits
}

func (c *cutter) keyword() int {
	w := c.window()
	n := plain(w)
	if n == 0 || n == len(w) || w[n] != ':' || c.joins(n+1) {
		return 0
	}
	return n + 1
}

func (c *cutter) hash() int {
	if c.begins("#t") || c.begins("#f") {
		return 2
	}
	return 0
}

func (c *cutter) sign() int {
	w := c.window()
	switch w[:min(2, len(w))] {
	case ":=", "::", "=>", "==", "<=", ">=":
		return 2
	}
	switch w[0] {
	case '(', ')', '[', ']', '{', '}', ',', ';', '.', '=', '<', '>', '+', '-', '*', '/', '&', '|', '~', '?':
		return 1
	}
	return 0
}

func (c *cutter) pattern() int {
	w := c.window()
	if w[0] != '?' {
		return 0
	}
	n := plain(w[1:])
	if n == 0 {
		return 0
	}
	n++
	if n == len(w) || w[n] != ':' || c.joins(n+1) {
		return n
	}
	if kind := plain(w[n+1:]); kind > 0 {
		return n + 1 + kind
	}
	return n
}

// joins tells whether the byte n bytes behind the cursor makes a sign of its own with a colon ahead of it.
func (c *cutter) joins(n int) bool {
	b := c.ahead(n)
	return b == ':' || b == '='
}

// plain is the length of the longest plain name at the beginning of w, 0 if there is none.
func plain(w string) int {
	if w == "" {
		return 0
	}
	first := classesOf(w[0])
	if !first[letter] && !first[beginsName] {
		return 0
	}
	longest := 0
	hasLetter := false
	for i := 0; i < len(w); i++ {
		in := classesOf(w[i])
		if !in[inName] {
			break
		}
		hasLetter = hasLetter || in[letter]
		if hasLetter && in[endsName] {
			longest = i + 1
		}
	}
	return longest
}

// library is the length of the @ and the library's name that make a plain name ahead of w a qualified one, 0 if there are none.
func library(w string) int {
	if len(w) < 2 || w[0] != '@' {
		return 0
	}
	if in := classesOf(w[1]); !in[letter] && !in[digit] {
		return 0
	}
	return 1 + run(w[1:], inLibrary)
}
