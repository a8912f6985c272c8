package syntax

import "skerry/api"

func (p *parser) sequence() api.Expr {
	p.expect("begin")
	e := p.body("end")
	p.expect("end")
	return e
}

func (p *parser) anonymous() api.Expr {
	p.expect("method")
	return p.function("")
}

// function parses the parameters and the body of a function.
func (p *parser) function(name string) api.Expr {
	params, bound := p.params()
	body := p.within(bound, func() api.Expr { return p.body("end") })
	p.expect("end")
	e := tree(api.ExFn, body)
	e.Name, e.Params = name, params
	return e
}

func (p *parser) conditional() api.Expr {
	p.expect("if")
	return p.branches()
}

// branches parses what is behind the word if, or elseif.
func (p *parser) branches() api.Expr {
	test := p.inParentheses()
	then := p.body("elseif", "else", "end")
	if p.accept("elseif") {
		return tree(api.ExIf, test, then, p.branches())
	}
	otherwise := boolean(0)
	if p.accept("else") {
		otherwise = p.body("end")
	}
	p.expect("end")
	return tree(api.ExIf, test, then, otherwise)
}

func (p *parser) block() api.Expr {
	p.expect("block")
	p.expect("(")
	var exit []variable
	if !p.is(")") {
		exit = append(exit, p.variable())
	}
	p.expect(")")
	e := tree(api.ExBlock, p.within(exit, func() api.Expr { return p.body("cleanup", "end") }))
	for _, v := range exit {
		e.Name = v.name()
	}
	if p.accept("cleanup") {
		e.Args = append(e.Args, p.body("end"))
	}
	p.expect("end")
	return e
}

func (p *parser) next() api.Expr {
	p.expect("next-method")
	return tree(api.ExNext, p.args()...)
}

func (p *parser) instance() api.Expr {
	p.expect("make")
	p.expect("(")
	e := tree(api.ExMake, p.expr())
	for p.accept(",") {
		e.Keys = append(e.Keys, p.key())
		e.Args = append(e.Args, p.expr())
	}
	p.expect(")")
	return e
}

func (p *parser) question() api.Expr {
	p.expect("instance?")
	p.expect("(")
	e := tree(api.ExIs, p.expr())
	p.expect(",")
	e.Type = p.typeHere()
	p.expect(")")
	return e
}

func (p *parser) load() api.Expr {
	p.expect("load-patch")
	p.expect("(")
	e := api.Expr{Kind: api.ExLoad, Num: p.integer()}
	p.expect(")")
	return e
}

func (p *parser) primitiveByWord() api.Expr {
	name := p.take().Text
	p.expect("(")
	e := primitive(name, p.expr())
	switch name {
	case "quotient":
		p.expect(",")
		e.Args = append(e.Args, p.expr())
	case "object-class":
		e.Name = "class-of"
	}
	p.expect(")")
	return e
}
