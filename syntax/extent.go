package syntax

import (
	"skerry/api"
	"skerry/lists"
)

// extent is how many expressions and types there are, and how many of either are within each other. What adds to it tells whether it may go on: there may be no end, so it stops when there are too many.
type extent struct {
	nodes int
	exprs int
	types int
}

// verdict returns OK for what has a right extent and a right form. The form of what is too long or too deep is not asked for.
func (x *extent) verdict(right func() bool) api.Errno {
	switch {
	case x.nodes > api.MaxNodes:
		return api.ErrLong
	case x.exprs > api.MaxDeep || x.types > api.MaxDeep:
		return api.ErrDeep
	case !right():
		return api.ErrForm
	}
	return api.OK
}

// one adds one expression or type.
func (x *extent) one() bool {
	x.nodes++
	return x.nodes <= api.MaxNodes
}

// expr adds an expression that is at a depth, with all that is in it.
func (x *extent) expr(e api.Expr, depth int) bool {
	x.exprs = max(x.exprs, depth)
	within := func(a api.Expr) bool { return x.expr(a, depth+1) }
	return x.one() && x.someType(e.Type, 1) && lists.All(e.Params, x.param) && lists.All(e.Args, within)
}

func (x *extent) alone(e api.Expr) bool {
	return x.expr(e, 1)
}

func (x *extent) typeAt(t api.Type, depth int) bool {
	x.types = max(x.types, depth)
	within := func(a api.Type) bool { return x.someType(a, depth+1) }
	return x.one() && lists.All(t.Args, within)
}

// someType adds a type, if there is one.
func (x *extent) someType(t api.Type, depth int) bool {
	return isNoType(t) || x.typeAt(t, depth)
}

func (x *extent) outerType(t api.Type) bool {
	return x.typeAt(t, 1)
}

func (x *extent) param(p api.Param) bool {
	return x.outerType(p.Type)
}

func (x *extent) slot(s api.Slot) bool {
	return x.someType(s.Type, 1) && lists.All(s.Init, x.alone)
}

func (x *extent) source(s api.Source) bool {
	return lists.All(s.Defs, x.definition) && lists.All(s.Main, x.alone)
}

// definition adds all of a definition, also what its kind does not use.
func (x *extent) definition(d api.Def) bool {
	m := d.Method
	return lists.All(d.Class.Slots, x.slot) &&
		lists.All(m.Params, x.param) && x.someType(m.Result, 1) && x.body(m.Body, d.Kind == api.DfMethod) &&
		lists.All(d.Domain.Types, x.outerType) &&
		x.body(d.Body, d.Kind == api.DfConst)
}

// body adds the body of a definition, if it has one: by its kind, or in spite of it.
func (x *extent) body(e api.Expr, has bool) bool {
	return !has && isNoExpr(e) || x.alone(e)
}
