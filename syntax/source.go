package syntax

import "skerry/api"

func (p *parser) source() api.Source {
	var s api.Source
	s.Patch = p.accept("patch")
	if !s.Patch {
		p.expect("library")
	}
	s.Name = p.name()
	p.expect(";")
	for p.is("use") {
		s.Uses = append(s.Uses, p.use())
		p.expect(";")
	}
	if p.accept("export") {
		p.several(func() { s.Exports = append(s.Exports, p.name()) })
		p.expect(";")
	}
	for p.is("define") {
		s.Defs = append(s.Defs, p.definition()...)
		p.expect(";")
	}
	if !p.ended() {
		s.Main = append(s.Main, p.expr())
		p.accept(";")
	}
	return s
}

func (p *parser) use() api.Use {
	p.expect("use")
	u := api.Use{Lib: p.name(), All: true}
	if !p.accept(",") {
		return u
	}
	if p.accept("prefix:") {
		u.Prefix = p.name()
		return u
	}
	p.expect("import:")
	u.All = false
	p.expect("{")
	p.several(func() { u.Names = append(u.Names, p.item()) })
	p.expect("}")
	return u
}

func (p *parser) item() api.Rename {
	name := p.name()
	if p.accept("=>") {
		return api.Rename{From: name, To: p.name()}
	}
	return api.Rename{From: name, To: name}
}

// definition parses a definition. It is followed by its domain, if it is that of a sealed method.
func (p *parser) definition() []api.Def {
	p.expect("define")
	abstract := p.accept("abstract")
	sealed := p.accept("sealed")
	switch {
	case p.is("class"):
		c := p.class()
		c.Abstract, c.Sealed = abstract, sealed
		return []api.Def{{Kind: api.DfClass, Class: c}}
	case p.is("generic") && !abstract:
		g := p.generic()
		g.Sealed = sealed
		return []api.Def{{Kind: api.DfGeneric, Generic: g}}
	case p.is("method") && !abstract:
		return withDomain(p.method(), sealed)
	case p.is("domain") && sealed && !abstract:
		return []api.Def{{Kind: api.DfDomain, Domain: p.domain()}}
	case p.is("constant") && !sealed && !abstract:
		return []api.Def{p.constant()}
	}
	p.refuse(api.ErrParse)
	return nil
}

func withDomain(m api.MethodDef, sealed bool) []api.Def {
	defs := []api.Def{{Kind: api.DfMethod, Method: m}}
	if !sealed {
		return defs
	}
	d := api.DomainDef{Generic: m.Generic}
	for _, x := range m.Params {
		d.Types = append(d.Types, copiedType(x.Type))
	}
	return append(defs, api.Def{Kind: api.DfDomain, Domain: d})
}

func (p *parser) class() api.ClassDef {
	p.expect("class")
	c := api.ClassDef{Name: p.name()}
	p.expect("(")
	p.several(func() { c.Supers = append(c.Supers, p.name()) })
	p.expect(")")
	for !p.accept("end") {
		c.Slots = append(c.Slots, p.slot())
		p.expect(";")
	}
	return c
}

func (p *parser) slot() api.Slot {
	var s api.Slot
	s.Alloc = p.allocation()
	p.expect("slot")
	s.Name = p.name()
	s.Type = p.typeBehind("::")
	for p.accept(",") {
		if p.accept("init-keyword:") {
			s.Key = p.key()
			continue
		}
		p.expect("init-value:")
		s.Init = []api.Expr{p.expr()}
	}
	return s
}

// allocation parses what stands ahead of the word slot.
func (p *parser) allocation() int {
	switch {
	case p.accept("class"):
		return api.SlClass
	case p.accept("each-subclass"):
		return api.SlEach
	case p.accept("virtual"):
		return api.SlVirt
	}
	return api.SlInst
}

func (p *parser) generic() api.GenericDef {
	p.expect("generic")
	g := api.GenericDef{Name: p.name()}
	p.list(func() {
		p.name()
		g.Arity++
	})
	return g
}

func (p *parser) method() api.MethodDef {
	p.expect("method")
	m := api.MethodDef{Generic: p.name()}
	params, bound := p.params()
	m.Params = params
	m.Result = p.typeBehind("=>")
	m.Body = p.within(bound, func() api.Expr { return p.body("end") })
	p.expect("end")
	return m
}

func (p *parser) domain() api.DomainDef {
	p.expect("domain")
	d := api.DomainDef{Generic: p.name()}
	p.list(func() { d.Types = append(d.Types, p.typeHere()) })
	return d
}

func (p *parser) constant() api.Def {
	p.expect("constant")
	d := api.Def{Kind: api.DfConst, Name: p.name()}
	p.expect("=")
	d.Body = p.expr()
	return d
}

// params returns parameters, and the variables that they bind.
func (p *parser) params() ([]api.Param, []variable) {
	var params []api.Param
	var bound []variable
	p.list(func() {
		v := p.variable()
		bound = append(bound, v)
		params = append(params, api.Param{Name: v.name(), Type: p.paramType()})
	})
	return params, bound
}

func (p *parser) paramType() api.Type {
	if p.accept("==") {
		return p.single()
	}
	return p.typeBehind("::")
}
