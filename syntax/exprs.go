package syntax

import (
	"skerry/api"
	"skerry/lex"
)

// levels are the binary operators. Those of a level bind less than those of the next one.
var levels = [4][]string{
	{"&", "|"},
	{"=", "==", "<", ">", "<=", ">="},
	{"+", "-"},
	{"*", "/"},
}

func (p *parser) expr() api.Expr {
	p.exprs++
	e := p.binary(0)
	if p.is(":=") {
		e = p.assignment(e)
	}
	p.exprs--
	return e
}

// assignment parses the rest of one, behind the call whose place gets a value.
func (p *parser) assignment(place api.Expr) api.Expr {
	name := p.setter(place)
	if name == "" {
		p.refuse(api.ErrParse)
	}
	p.expect(":=")
	value := p.expr()
	return tree(api.ExCall, append([]api.Expr{named(name), value}, place.Args[1:]...)...)
}

// setter is the name of the function that sets what a call returns; an empty string if there is none.
func (p *parser) setter(place api.Expr) string {
	if place.Kind != api.ExCall || place.Args[0].Kind != api.ExVar {
		return ""
	}
	name := Setter(place.Args[0].Name)
	text, mark := lex.Split(name)
	k, _ := lex.Number(mark)
	if k == 0 || p.scope[variable{text, k}] > 0 || p.scope[variable{name, 0}] > 0 {
		return name
	}
	return globalName(text) // the variable has no setter that is a variable with its mark
}

// binary parses operands with operators of a level between them.
func (p *parser) binary(level int) api.Expr {
	if level == len(levels) {
		return p.unary()
	}
	left := p.binary(level + 1)
	for p.is(levels[level]...) {
		operator := p.take().Text
		right := p.binary(level + 1)
		left = operation(operator, left, right)
	}
	return left
}

func operation(operator string, left, right api.Expr) api.Expr {
	switch operator {
	case "&":
		return tree(api.ExIf, left, right, boolean(0))
	case "|":
		choice := tree(api.ExIf, named(either), named(either), right)
		return let(either, left, choice)
	case "/":
		operator = "quotient"
	}
	return primitive(operator, left, right)
}

func (p *parser) unary() api.Expr {
	switch {
	case p.accept("-"):
		return primitive("-", number(0), p.operand())
	case p.accept("~"):
		return primitive("not", p.operand())
	}
	return p.call()
}

// operand parses what is behind a prefix operator.
func (p *parser) operand() api.Expr {
	p.exprs++
	e := p.unary()
	p.exprs--
	return e
}

func (p *parser) call() api.Expr {
	e := p.atom()
	for {
		switch {
		case p.is("("):
			e = tree(api.ExCall, append([]api.Expr{e}, p.args()...)...)
		case p.accept("."):
			e = tree(api.ExCall, p.reference(), e)
		default:
			return e
		}
	}
}

// args parses a list of expressions in parentheses.
func (p *parser) args() []api.Expr {
	var l []api.Expr
	p.list(func() { l = append(l, p.expr()) })
	return l
}

func (p *parser) atom() api.Expr {
	switch {
	case p.now.Kind == api.TkNum:
		return number(p.integer())
	case p.now.Kind == api.TkHash:
		return boolean(p.hash())
	case p.is("("):
		return p.inParentheses()
	}
	if rule := p.atomByWord(); rule != nil {
		return rule()
	}
	return p.reference()
}

// hash takes #f or #t, and returns its number.
func (p *parser) hash() int {
	if p.accept("#t") {
		return 1
	}
	p.expect("#f")
	return 0
}

func (p *parser) inParentheses() api.Expr {
	p.expect("(")
	e := p.expr()
	p.expect(")")
	return e
}

// atomByWord is the rule of an atom that begins with a reserved word.
func (p *parser) atomByWord() func() api.Expr {
	switch p.now.Text {
	case "begin":
		return p.sequence
	case "method":
		return p.anonymous
	case "if":
		return p.conditional
	case "block":
		return p.block
	case "next-method":
		return p.next
	case "make":
		return p.instance
	case "instance?":
		return p.question
	case "load-patch":
		return p.load
	case "print", "signal", "object-class", "quotient":
		return p.primitiveByWord
	}
	return nil
}
