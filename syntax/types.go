package syntax

import (
	"slices"

	"skerry/api"
)

// typeBehind parses a type behind a sign. Without the sign it is that of all values.
func (p *parser) typeBehind(sign string) api.Type {
	if p.accept(sign) {
		return p.typeHere()
	}
	return classType("<object>")
}

func (p *parser) typeHere() api.Type {
	p.types++
	t := p.typeByWord()
	p.types--
	return t
}

func (p *parser) typeByWord() api.Type {
	switch {
	case p.accept("limited"):
		return p.limited()
	case p.accept("singleton"):
		p.expect("(")
		t := p.single()
		p.expect(")")
		return t
	case p.accept("subclass"):
		p.expect("(")
		t := api.Type{Kind: api.TySub, Name: p.name()}
		p.expect(")")
		return t
	case p.accept("type-union"):
		t := api.Type{Kind: api.TyUnion}
		p.list(func() { t.Args = append(t.Args, p.typeHere()) })
		return t
	}
	return classType(p.name())
}

func (p *parser) limited() api.Type {
	t := api.Type{Kind: api.TyInt}
	p.expect("(")
	t.Lo = p.integer()
	p.expect(",")
	t.Hi = p.integer()
	p.expect(")")
	return t
}

// single parses a value, and returns the type that has it alone.
func (p *parser) single() api.Type {
	if p.now.Kind == api.TkHash {
		return api.Type{Kind: api.TyBool, Lo: p.hash()}
	}
	n := p.integer()
	return api.Type{Kind: api.TyInt, Lo: n, Hi: n}
}

func classType(name string) api.Type {
	return api.Type{Kind: api.TyClass, Name: name}
}

// isNoType tells whether a type is zero.
func isNoType(t api.Type) bool {
	return t.Kind == 0 && t.Name == "" && t.Lo == 0 && t.Hi == 0 && len(t.Args) == 0
}

func sameTypes(s, t api.Type) bool {
	return s.Kind == t.Kind && s.Name == t.Name && s.Lo == t.Lo && s.Hi == t.Hi && slices.EqualFunc(s.Args, t.Args, sameTypes)
}

// copiedType is a type in memory of its own.
func copiedType(t api.Type) api.Type {
	t.Args = slices.Clone(t.Args)
	for i, a := range t.Args {
		t.Args[i] = copiedType(a)
	}
	return t
}

// deeper tells whether more than most types are within each other.
func deeper(t api.Type, most int) bool {
	if most == 0 {
		return true
	}
	return slices.ContainsFunc(t.Args, func(a api.Type) bool { return deeper(a, most-1) })
}
