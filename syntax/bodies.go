package syntax

import "skerry/api"

// body parses the statements ahead of a word with which they may end.
func (p *parser) body(ends ...string) api.Expr {
	var l []api.Expr
	for more := !p.is(ends...); more; more = p.accept(";") && !p.is(ends...) {
		statement := p.statement()
		l = append(l, statement(ends))
	}
	switch len(l) {
	case 0:
		return boolean(0)
	case 1:
		return l[0]
	}
	return tree(api.ExSeq, l...)
}

// statement is the rule of the statement that is there. If this has a scope, what is in it belongs to the statement.
func (p *parser) statement() func(ends []string) api.Expr {
	switch {
	case p.is("let"):
		return p.let
	case p.is("local"):
		return p.local
	}
	return p.evaluated
}

func (p *parser) evaluated([]string) api.Expr {
	return p.expr()
}

func (p *parser) let(ends []string) api.Expr {
	p.expect("let")
	if p.accept("handler") {
		return p.handler(ends)
	}
	v := p.variable()
	p.expect("=")
	value := p.expr()
	rest := p.within([]variable{v}, func() api.Expr { return p.rest(ends) })
	return let(v.name(), value, rest)
}

func (p *parser) handler(ends []string) api.Expr {
	condition := p.typeHere()
	p.expect("=")
	handler := p.expr()
	e := tree(api.ExHandle, handler, p.rest(ends))
	e.Type = condition
	return e
}

func (p *parser) local(ends []string) api.Expr {
	p.expect("local")
	p.expect("method")
	v := p.variable()
	return p.within([]variable{v}, func() api.Expr {
		function := p.function(v.name())
		return let(v.name(), function, p.rest(ends))
	})
}

// rest parses the statements behind one with a scope.
func (p *parser) rest(ends []string) api.Expr {
	if !p.accept(";") {
		return boolean(0)
	}
	return p.body(ends...)
}
