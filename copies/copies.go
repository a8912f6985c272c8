// Package copies makes copies that share no memory with what they are copies of.
package copies

import (
	"slices"

	"skerry/api"
	"skerry/lists"
)

// Type returns a copy of a type.
func Type(t api.Type) api.Type {
	t.Args = lists.Each(t.Args, Type)
	return t
}

// Expr returns a copy of an expression.
func Expr(e api.Expr) api.Expr {
	e.Type = Type(e.Type)
	e.Params = lists.Each(e.Params, param)
	e.Keys = slices.Clone(e.Keys)
	e.Args = lists.Each(e.Args, Expr)
	return e
}

func param(p api.Param) api.Param {
	p.Type = Type(p.Type)
	return p
}

// Def returns a copy of a definition, also of the fields that its kind does not use.
func Def(d api.Def) api.Def {
	d.Class.Supers = slices.Clone(d.Class.Supers)
	d.Class.Slots = lists.Each(d.Class.Slots, slot)
	d.Method.Params = lists.Each(d.Method.Params, param)
	d.Method.Result = Type(d.Method.Result)
	d.Method.Body = Expr(d.Method.Body)
	d.Domain.Types = lists.Each(d.Domain.Types, Type)
	d.Body = Expr(d.Body)
	return d
}

func slot(s api.Slot) api.Slot {
	s.Type = Type(s.Type)
	s.Init = lists.Each(s.Init, Expr)
	return s
}

// Library returns a copy of a library.
func Library(l api.Library) api.Library {
	l.Uses = slices.Clone(l.Uses)
	l.Defs = lists.Each(l.Defs, Def)
	return l
}

// Frag returns a copy of a fragment.
func Frag(f api.Frag) api.Frag {
	f.Kids = lists.Each(f.Kids, Frag)
	return f
}

// Macro returns a copy of a macro.
func Macro(m api.Macro) api.Macro {
	m.Rules = lists.Each(m.Rules, rule)
	return m
}

func rule(r api.MacroRule) api.MacroRule {
	r.Pattern = lists.Each(r.Pattern, Frag)
	r.Template = lists.Each(r.Template, Frag)
	return r
}

// Interface returns a copy of an interface.
func Interface(i api.Interface) api.Interface {
	i.Face.Names = slices.Clone(i.Face.Names)
	i.Whole.Names = slices.Clone(i.Whole.Names)
	i.Macros = lists.Each(i.Macros, Macro)
	return i
}
