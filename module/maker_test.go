package module

import (
	"math/rand"
	"slices"
	"strings"

	"skerry/api"
	"skerry/lists"
)

// maker makes sources and faces by chance, of which most can be resolved.
type maker struct {
	*rand.Rand
	plain    bool     // no variable is one that a full name could be, or that of a predefined class
	flawless bool     // nothing is wrong on purpose
	names    []string // the global names of the source that is made
	classes  []string
	generics []string
}

func newMaker(seed int64) *maker {
	return &maker{Rand: rand.New(rand.NewSource(seed))}
}

func (m *maker) pick(l ...string) string {
	return l[m.Intn(len(l))]
}

// rarely is true once in n times, but never if nothing is to be wrong.
func (m *maker) rarely(n int) bool {
	return m.Intn(n) == 0 && !m.flawless
}

// kinds are the names that faces and sources have, with what they mostly denote.
const kinds = "class:<a> class:<b> class:<c> class:<d> class:<e> 2:f 1:g 1:r 2:r-setter 1:s 2:s-setter 1:x 2:x-setter 1:y const:k const:m"

func (m *maker) face(lib string) api.Face {
	f := api.Face{Lib: lib}
	for _, x := range entries("l", kinds) {
		if m.Intn(4) > 0 {
			continue
		}
		if m.Intn(6) == 0 { // of this name there are several definitions
			x.Full = x.Name + "@" + m.pick("geo", "two", "b", lib)
		}
		switch m.Intn(60) {
		case 0:
			x.Full = m.pick("<a>@l", "r@b", "s-setter@b", "x@b")
		case 1:
			x.Kind = m.pickKind()
			x.Arity = 0
		case 2:
			if x.Kind == api.DfGeneric {
				x.Arity = m.Intn(4)
			}
		}
		f.Names = append(f.Names, x)
	}
	m.Shuffle(len(f.Names), func(i, j int) { f.Names[i], f.Names[j] = f.Names[j], f.Names[i] })
	if m.rarely(1000) {
		f.Names = append(f.Names, api.Export{Name: "x@y", Full: "x@y", Kind: api.DfConst})
	}
	return f
}

func (m *maker) pickKind() int {
	return []int{api.DfClass, api.DfGeneric, api.DfConst}[m.Intn(3)]
}

// source makes a source, and faces for it.
func (m *maker) source() (api.Source, []api.Face) {
	var faces []api.Face
	for _, lib := range []string{"geo", "two", "also"} {
		faces = append(faces, m.face(lib))
	}
	if m.Intn(4) > 0 {
		faces = append(faces, m.face("b"))
	}
	m.Shuffle(len(faces), func(i, j int) { faces[i], faces[j] = faces[j], faces[i] })
	s := api.Source{Name: "b", Patch: m.Intn(4) == 0 && slices.ContainsFunc(faces, func(f api.Face) bool { return f.Lib == "b" })}
	if !s.Patch {
		s.Uses = m.uses(faces)
	}
	if m.rarely(50) {
		s.Name = m.pick("c", "geo", "B", "a-name-of-just-40-bytes-is-a-long-one-1")
	}
	m.define(&s)
	m.collect(rules{s, faces})
	m.fill(&s)
	if s.Patch {
		return s, faces
	}
	for _, name := range m.names[len(predefinedClasses()):] { // there are no others but the predefined ones
		if m.Intn(8) == 0 && !slices.Contains(s.Exports, name) {
			s.Exports = append(s.Exports, name)
		}
	}
	if m.rarely(100) {
		s.Exports = append(s.Exports, m.pick("<fault>", "nothing", "let"))
	}
	if m.Intn(2) == 0 {
		s.Main = append(s.Main, m.expr(3, nil))
	}
	return s, faces
}

func (m *maker) uses(faces []api.Face) []api.Use {
	var l []api.Use
	for _, f := range faces {
		if m.Intn(2) == 0 || f.Lib == "b" {
			continue
		}
		u := api.Use{Lib: f.Lib, All: true, Prefix: m.pick("", "p_", "<q>", "")}
		if m.Intn(3) == 0 && len(f.Names) > 0 {
			u.All, u.Prefix = false, ""
			for range 1 + m.Intn(3) {
				x := f.Names[m.Intn(len(f.Names))]
				u.Names = append(u.Names, api.Rename{From: x.Name, To: m.pick(x.Name, x.Name, "i_"+x.Name, "j_"+x.Name)})
			}
			if m.rarely(20) {
				u.Names = append(u.Names, api.Rename{From: m.pick("<a>", "f", "k"), To: "i_k"})
			}
			if m.rarely(20) {
				u.Names[0].To = m.pick("x@y", "let", "k")
			}
		}
		l = append(l, u)
	}
	if m.rarely(60) {
		l = append(l, api.Use{Lib: m.pick("b", "nothing"), All: true})
	}
	return l
}

// define adds definitions that introduce names.
func (m *maker) define(s *api.Source) {
	for range m.Intn(5) {
		switch m.Intn(5) {
		case 0:
			s.Defs = append(s.Defs, api.Def{Kind: api.DfGeneric, Generic: api.GenericDef{Name: m.pick("f", "g", "r", "x"), Arity: 1 + m.Intn(10)/9, Sealed: m.Intn(2) == 0}})
		case 1:
			s.Defs = append(s.Defs, api.Def{Kind: api.DfConst, Name: m.pick("k", "m", "n", "k", "m", "n", "r")})
		default:
			s.Defs = append(s.Defs, api.Def{Kind: api.DfClass, Class: m.class()})
		}
	}
	if m.rarely(50) {
		s.Defs = append(s.Defs, api.Def{Kind: api.DfConst, Name: m.pick(times(38, "a"), times(39, "a"))})
	}
}

func (m *maker) class() api.ClassDef {
	c := api.ClassDef{Name: m.pick("<c>", "<d>", "<e>"), Abstract: m.Intn(2) == 0, Sealed: m.Intn(2) == 0}
	for _, name := range []string{"r", "s", "x", "y", "i_g", "f"} {
		if m.Intn(3) > 0 || name == "f" && m.Intn(10) > 0 {
			continue
		}
		slot := api.Slot{Name: name, Alloc: 1 + m.Intn(4)}
		if slot.Alloc != api.SlVirt {
			slot.Key = m.pick("", "k", name)
		}
		c.Slots = append(c.Slots, slot)
	}
	if m.rarely(100) {
		c.Slots = append(c.Slots, api.Slot{Name: m.pick(times(31, "a"), times(32, "a"), "r-setter"), Alloc: 1})
	}
	return c
}

// collect notes what a source may refer to.
func (m *maker) collect(r rules) {
	m.names, m.classes, m.generics = nil, nil, nil
	rightUse := func(u api.Use) bool { return r.face(u.Lib) != nil && len(u.Names) == 0 }
	r.Uses = slices.DeleteFunc(slices.Clone(r.Uses), func(u api.Use) bool { return !rightUse(u) && !r.exports(u) })
	r.Patch = r.Patch && r.face(r.Name) != nil
	sources := r.entries()
	for _, x := range slices.Concat(sources[:]...) {
		m.names = append(m.names, x.Name)
		switch x.Kind {
		case api.DfClass:
			m.classes = append(m.classes, x.Name)
		case api.DfGeneric:
			m.generics = append(m.generics, x.Name)
		}
	}
}

// exports tells whether all names that a use clause imports are there.
func (r rules) exports(u api.Use) bool {
	return r.face(u.Lib) != nil && lists.All(u.Names, func(n api.Rename) bool { return exportOf(r.face(u.Lib).Names, n.From) != nil })
}

// fill adds to definitions what refers to names, and definitions that introduce none.
func (m *maker) fill(s *api.Source) {
	for i := range s.Defs {
		d := &s.Defs[i]
		switch d.Kind {
		case api.DfConst:
			d.Body = m.expr(3, nil)
		case api.DfClass:
			for range 1 + m.Intn(2) {
				d.Class.Supers = append(d.Class.Supers, m.className())
			}
			for k := range d.Class.Slots {
				slot := &d.Class.Slots[k]
				slot.Type = m.typ(2)
				if slot.Alloc != api.SlVirt && m.Intn(2) == 0 {
					slot.Init = append(slot.Init, m.expr(2, nil))
				}
			}
		}
	}
	for range m.Intn(4) * min(1, len(m.generics)) {
		d := api.Def{Kind: api.DfMethod, Method: api.MethodDef{Generic: m.generic(), Params: m.params(), Result: m.typ(1)}}
		d.Method.Body = m.expr(4, paramNames(d.Method.Params))
		if m.Intn(4) == 0 {
			d = api.Def{Kind: api.DfDomain, Domain: api.DomainDef{Generic: m.generic()}}
			for range m.Intn(3) {
				d.Domain.Types = append(d.Domain.Types, m.typ(2))
			}
		}
		s.Defs = slices.Insert(s.Defs, m.Intn(len(s.Defs)+1), d)
	}
}

// name is a global name, mostly one of a list, or one that is mostly wrong.
func (m *maker) name(l []string) string {
	if len(l) == 0 || m.rarely(60) {
		return m.pick("nothing", "k@b", "<a>@0", m.pick(m.names...), m.pick(m.names...), m.pick(m.names...))
	}
	return m.pick(l...)
}

func (m *maker) className() string {
	return m.name(m.classes)
}

func (m *maker) generic() string {
	return m.name(m.generics)
}

func (m *maker) typ(depth int) api.Type {
	switch m.Intn(8) {
	case 0:
		return api.Type{Kind: api.TyInt, Lo: m.Intn(4) - 4, Hi: m.Intn(4)}
	case 1:
		return api.Type{Kind: api.TyBool, Lo: m.Intn(2)}
	case 2:
		return api.Type{Kind: api.TySub, Name: m.className()}
	case 3:
		t := api.Type{Kind: api.TyUnion}
		for range m.Intn(3) * min(1, depth) {
			t.Args = append(t.Args, m.typ(depth-1))
		}
		return t
	}
	return api.Type{Kind: api.TyClass, Name: m.className()}
}

// variable is a name that is bound. Many global names are hidden by such.
func (m *maker) variable() string {
	if m.plain {
		return m.pick("v", "w", "f", "g", "k", "<a>", "x")
	}
	return m.pick("v", "v@0", "v@1", "f", "f@0", "g", "k", "k@0", "k@b", "<a>", "<object>", "x", "x@b", "x@1")
}

func (m *maker) params() []api.Param {
	var l []api.Param
	for range m.Intn(3) {
		p := api.Param{Name: m.variable(), Type: m.typ(1)}
		if !slices.Contains(paramNames(l), p.Name) {
			l = append(l, p)
		}
	}
	return l
}

// atom makes a variable that is bound or a global one, or a constant.
func (m *maker) atom(bound []string) api.Expr {
	switch m.Intn(6) {
	case 0:
		return api.Expr{Kind: api.ExNum, Num: m.Intn(9) - 4}
	case 1:
		return api.Expr{Kind: []int{api.ExBool, api.ExLoad}[m.Intn(2)], Num: m.Intn(2)}
	case 2, 3:
		if len(bound) > 0 {
			return api.Expr{Kind: api.ExVar, Name: m.pick(bound...)}
		}
	}
	name := m.name(m.names)
	if m.Intn(4) == 0 && len(name) < 38 && !strings.Contains(name, "@") {
		name += "@0"
	}
	return api.Expr{Kind: api.ExVar, Name: name}
}

func (m *maker) exprs(n, depth int, bound []string) []api.Expr {
	var l []api.Expr
	for range n {
		l = append(l, m.expr(depth-1, bound))
	}
	return l
}

// expr makes an expression in the scope of variables.
func (m *maker) expr(depth int, bound []string) api.Expr {
	if depth <= 0 || m.Intn(6) == 0 {
		return m.atom(bound)
	}
	e := api.Expr{Kind: api.ExCall + m.Intn(api.ExIs-api.ExCall+1)}
	switch e.Kind {
	case api.ExCall:
		e.Args = m.exprs(1+m.Intn(3), depth, bound)
	case api.ExIf:
		e.Args = m.exprs(3, depth, bound)
	case api.ExSeq:
		e.Args = m.exprs(2, depth, bound)
	case api.ExNext:
		e.Args = m.exprs(m.Intn(3), depth, bound)
	case api.ExMake:
		e.Keys = strings.Fields(numbered(m.Intn(3), "k#"))
		e.Args = m.exprs(len(e.Keys)+1, depth, bound)
	case api.ExPrim:
		e.Name, e.Args = m.pick("+", "quotient", "=="), m.exprs(2, depth, bound)
		if m.Intn(2) == 0 {
			e.Name, e.Args = m.pick("not", "print", "class-of"), e.Args[:1]
		}
	case api.ExHandle:
		e.Type, e.Args = m.typ(2), m.exprs(2, depth, bound)
	case api.ExIs:
		e.Type, e.Args = m.typ(2), m.exprs(1, depth, bound)
	default:
		return m.binding(e.Kind, depth, bound)
	}
	return e
}

// binding makes an expression that binds variables.
func (m *maker) binding(kind, depth int, bound []string) api.Expr {
	e := api.Expr{Kind: kind}
	within := func(names ...string) []string { return append(slices.Clone(bound), names...) }
	switch kind {
	case api.ExFn:
		e.Params = m.params()
		e.Args = m.exprs(1, depth, within(paramNames(e.Params)...))
	case api.ExBlock:
		e.Name = m.pick("", m.variable())
		e.Args = m.exprs(1, depth, within(strings.Fields(e.Name)...))
		e.Args = append(e.Args, m.exprs(m.Intn(2), depth, bound)...)
	default:
		e.Name = m.variable()
		switch m.Intn(3) {
		case 0:
			f := m.binding(api.ExFn, depth, within(e.Name))
			f.Name = e.Name
			e.Args = []api.Expr{f, m.expr(depth-1, within(e.Name))}
		case 1:
			either := api.Expr{Kind: api.ExVar, Name: "%|"}
			choice := api.Expr{Kind: api.ExIf, Args: []api.Expr{either, either, m.expr(depth-1, bound)}}
			e.Name, e.Args = "%|", []api.Expr{m.expr(depth-1, bound), choice}
		default:
			e.Args = append(m.exprs(1, depth, bound), m.expr(depth-1, within(e.Name)))
		}
	}
	return e
}
