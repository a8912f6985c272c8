package module

import (
	"skerry/api"
	"skerry/lists"
	"skerry/syntax"
)

// refusal is what a resolver panics with at a name that does not denote what it has to.
type refusal struct {
	e api.Errno
}

// leave gives up at a name.
func leave(_ string, e api.Errno) {
	panic(refusal{e})
}

// resolver replaces names by the full names of what they denote.
type resolver struct {
	*dictionary
	defined map[string]bool                // the generic functions of slots that were defined ahead of a class
	refuse  func(name string, e api.Errno) // is told of each name that does not denote what it has to
}

func newResolver(d *dictionary, refuse func(string, api.Errno)) *resolver {
	return &resolver{dictionary: d, defined: map[string]bool{}, refuse: refuse}
}

// resolvable returns the table of a source that can be resolved, or the first of the errors of the source.
func resolvable(s api.Source, faces []api.Face) (*dictionary, api.Errno) {
	if _, _, e := Resolve(s, faces); e != api.OK {
		return nil, e
	}
	return tabulate(s, faces)
}

// find returns the full name of what a name denotes, which has to be of the right sort.
func (r *resolver) find(name string, right func(api.Export) bool) string {
	x, ok := r.named[name]
	switch {
	case !ok:
		r.refuse(name, api.ErrUnbound)
	case !right(x):
		r.refuse(name, api.ErrSort)
	}
	return x.Full
}

func (r *resolver) className(name string) string {
	return r.find(name, isClass)
}

func (r *resolver) genericName(name string) string {
	return r.find(name, isGeneric)
}

func isAnything(api.Export) bool  { return true }
func isClass(x api.Export) bool   { return x.Kind == api.DfClass }
func isGeneric(x api.Export) bool { return x.Kind == api.DfGeneric }
func isGetter(x api.Export) bool  { return isGeneric(x) && x.Arity == 1 }
func isSetter(x api.Export) bool  { return isGeneric(x) && x.Arity == 2 }

// library resolves a source.
func (r *resolver) library(s api.Source) (api.Library, []api.Expr) {
	l := api.Library{Name: s.Name, Uses: lists.Each(s.Uses, func(u api.Use) string { return u.Lib })}
	resolve := definitions()
	for _, d := range s.Defs {
		l.Defs = append(l.Defs, resolve[d.Kind](r, d)...)
	}
	return l, lists.Each(s.Main, r.alone)
}

// definitions has, for each kind of definitions, what resolves one.
func definitions() map[int]func(*resolver, api.Def) []api.Def {
	return map[int]func(*resolver, api.Def) []api.Def{
		api.DfClass:   (*resolver).class,
		api.DfGeneric: (*resolver).generic,
		api.DfMethod:  (*resolver).method,
		api.DfDomain:  (*resolver).domain,
		api.DfConst:   (*resolver).constant,
	}
}

// class resolves a class, with the generic functions of its slots ahead of it and their methods behind it.
func (r *resolver) class(d api.Def) []api.Def {
	c := d.Class
	c.Name = r.className(c.Name)
	c.Supers = lists.Each(c.Supers, r.className)
	c.Slots = nil
	for _, s := range d.Class.Slots {
		resolved := r.slot(s)
		if s.Alloc != api.SlVirt {
			c.Slots = append(c.Slots, resolved)
		}
	}
	l := append(r.newFunctions(d.Class.Slots), api.Def{Kind: api.DfClass, Class: c})
	for _, accessor := range syntax.Accessors(d.Class) {
		l = append(l, r.method(accessor)...)
	}
	return l
}

func (r *resolver) slot(s api.Slot) api.Slot {
	setter := syntax.Setter(s.Name)
	s.Name = r.find(s.Name, isGetter)
	r.find(setter, isSetter)
	s.Type = r.typ(s.Type)
	s.Init = lists.Each(s.Init, r.alone)
	return s
}

// newFunctions defines the generic functions that slots introduce, but for those that slots ahead have defined.
func (r *resolver) newFunctions(slots []api.Slot) []api.Def {
	var l []api.Def
	for _, x := range functionsOf(slots) {
		if r.slots[x.Name] && !r.defined[x.Name] {
			r.defined[x.Name] = true
			l = append(l, api.Def{Kind: api.DfGeneric, Generic: api.GenericDef{Name: r.genericName(x.Name), Arity: x.Arity}})
		}
	}
	return l
}

func (r *resolver) generic(d api.Def) []api.Def {
	g := d.Generic
	g.Name = r.genericName(g.Name)
	return []api.Def{{Kind: api.DfGeneric, Generic: g}}
}

func (r *resolver) method(d api.Def) []api.Def {
	m := d.Method
	bound := scope(unbound).with(paramNames(m.Params))
	m.Generic = r.genericName(m.Generic)
	m.Params = lists.Each(m.Params, r.param)
	m.Result = r.typ(m.Result)
	m.Body = r.expr(m.Body, bound)
	return []api.Def{{Kind: api.DfMethod, Method: m}}
}

func (r *resolver) domain(d api.Def) []api.Def {
	generic := r.genericName(d.Domain.Generic)
	types := lists.Each(d.Domain.Types, r.typ)
	return []api.Def{{Kind: api.DfDomain, Domain: api.DomainDef{Generic: generic, Types: types}}}
}

func (r *resolver) constant(d api.Def) []api.Def {
	name := r.find(d.Name, isAnything)
	body := r.alone(d.Body)
	return []api.Def{{Kind: api.DfConst, Name: name, Body: body}}
}
