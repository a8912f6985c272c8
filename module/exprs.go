package module

import (
	"slices"

	"skerry/api"
	"skerry/lists"
)

// scope tells whether a place is in the scope of a variable.
type scope func(name string) bool

func unbound(string) bool {
	return false
}

// with is the scope of further variables within another one.
func (outer scope) with(names []string) scope {
	if len(names) == 0 {
		return outer
	}
	return func(name string) bool { return slices.Contains(names, name) || outer(name) }
}

func paramNames(l []api.Param) []string {
	return lists.Each(l, func(p api.Param) string { return p.Name })
}

// boundIn is the variables that an expression binds in its Args with an index. (The name of a function is that of its let.)
func boundIn(e api.Expr, i int) []string {
	switch {
	case e.Kind == api.ExLet && i == 1, e.Kind == api.ExBlock && i == 0:
		return []string{e.Name}
	case e.Kind == api.ExFn:
		return append(paramNames(e.Params), e.Name)
	}
	return nil
}

func (r *resolver) param(p api.Param) api.Param {
	return api.Param{Name: p.Name, Type: r.typ(p.Type)}
}

func (r *resolver) typ(t api.Type) api.Type {
	if t.Kind == api.TyClass || t.Kind == api.TySub {
		t.Name = r.className(t.Name)
	}
	t.Args = lists.Each(t.Args, r.typ)
	return t
}

// alone resolves an expression that is not part of another one.
func (r *resolver) alone(e api.Expr) api.Expr {
	return r.expr(e, unbound)
}

// expr resolves an expression in the scope of variables. Its parts are resolved in the order in which their names stand.
func (r *resolver) expr(e api.Expr, bound scope) api.Expr {
	resolved := api.Expr{Kind: e.Kind, Num: e.Num, Keys: slices.Clone(e.Keys)}
	resolved.Type = r.typ(e.Type)
	resolved.Params = lists.Each(e.Params, r.param)
	resolved.Name = r.exprName(e, bound)
	for i, a := range e.Args {
		resolved.Args = append(resolved.Args, r.expr(a, bound.with(boundIn(e, i))))
	}
	return resolved
}

// exprName resolves the Name of an expression, which is global in a variable that is not bound, and in what accessors do.
func (r *resolver) exprName(e api.Expr, bound scope) string {
	switch {
	case e.Kind == api.ExVar && !bound(e.Name):
		return r.find(global(e.Name), isAnything)
	case e.Kind == api.ExSlot || e.Kind == api.ExSet:
		return r.genericName(e.Name)
	}
	return e.Name
}
