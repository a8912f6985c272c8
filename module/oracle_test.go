package module

import (
	"slices"
	"strings"
	"testing"

	"skerry/api"
	"skerry/lex"
	"skerry/syntax"
)

// rules are the chapter's rules for a source with faces, written once more: with lists instead of maps, and with the names that stand in a source listed before any of them is replaced.
type rules struct {
	api.Source
	faces []api.Face
}

func (r rules) face(lib string) *api.Face {
	for i := range r.faces {
		if r.faces[i].Lib == lib {
			return &r.faces[i]
		}
	}
	return nil
}

func (r rules) own(name string, kind, arity int) api.Export {
	return api.Export{Name: name, Full: name + "@" + r.Name, Kind: kind, Arity: arity}
}

func exportOf(l []api.Export, name string) *api.Export {
	for i := range l {
		if l[i].Name == name {
			return &l[i]
		}
	}
	return nil
}

func fullOf(l []api.Export, full string) *api.Export {
	for i := range l {
		if l[i].Full == full {
			return &l[i]
		}
	}
	return nil
}

// entries are the entries of the table by the four rules, also those that are left out as there are the same ahead of them.
func (r rules) entries() (l [4][]api.Export) {
	l[0] = entries("", predefined)
	for _, u := range r.Uses {
		for _, x := range r.face(u.Lib).Names {
			if u.All {
				l[1] = append(l[1], api.Export{Name: u.Prefix + x.Name, Full: x.Full, Kind: x.Kind, Arity: x.Arity})
			}
		}
		for _, n := range u.Names {
			x := *exportOf(r.face(u.Lib).Names, n.From)
			l[1] = append(l[1], api.Export{Name: n.To, Full: x.Full, Kind: x.Kind, Arity: x.Arity})
		}
	}
	if r.Patch {
		l[2] = append(l[2], r.face(r.Name).Names...)
	}
	for _, d := range r.Defs {
		switch d.Kind {
		case api.DfGeneric:
			l[3] = append(l[3], r.own(d.Generic.Name, api.DfGeneric, d.Generic.Arity))
		case api.DfConst:
			l[3] = append(l[3], r.own(d.Name, api.DfConst, 0))
		case api.DfClass:
			l[3] = append(l[3], r.own(d.Class.Name, api.DfClass, 0))
			l[3] = append(l[3], r.bySlots(d, l)...)
		}
	}
	return l
}

// bySlots are the entries that the slots of a class make.
func (r rules) bySlots(d api.Def, l [4][]api.Export) []api.Export {
	var m []api.Export
	for _, s := range d.Class.Slots {
		for i, name := range []string{s.Name, s.Name + "-setter"} {
			generic := func(d api.Def) bool { return d.Kind == api.DfGeneric && d.Generic.Name == name }
			if exportOf(l[1], name) == nil && exportOf(l[2], name) == nil && !slices.ContainsFunc(r.Defs, generic) {
				m = append(m, r.own(name, api.DfGeneric, i+1))
			}
		}
	}
	return m
}

// introduced are the names that have to have full names.
func (r rules) introduced() []string {
	var l []string
	for _, d := range r.Defs {
		switch d.Kind {
		case api.DfGeneric:
			l = append(l, d.Generic.Name)
		case api.DfConst:
			l = append(l, d.Name)
		case api.DfClass:
			l = append(l, d.Class.Name)
			for _, s := range d.Class.Slots {
				l = append(l, s.Name, s.Name+"-setter")
			}
		}
	}
	return l
}

func (r rules) table() ([]api.Export, api.Errno) {
	if e := syntax.Check(r.Source); e != api.OK {
		return nil, e
	}
	if e := CheckFaces(r.faces); e != api.OK {
		return nil, e
	}
	if r.Patch && r.face(r.Name) == nil {
		return nil, api.ErrUse
	}
	for _, u := range r.Uses {
		if u.Lib == r.Name || r.face(u.Lib) == nil {
			return nil, api.ErrUse
		}
	}
	for _, u := range r.Uses {
		for _, n := range u.Names {
			if exportOf(r.face(u.Lib).Names, n.From) == nil {
				return nil, api.ErrExport
			}
		}
	}
	sources := r.entries()
	for _, x := range sources[1] {
		if !lex.IsPlain(x.Name) {
			return nil, api.ErrQual
		}
	}
	for _, name := range r.introduced() {
		if len(name+"@"+r.Name) > api.MaxName {
			return nil, api.ErrQual
		}
	}
	return joined(slices.Concat(sources[:]...))
}

// joined is a list of entries in which each stands once.
func joined(l []api.Export) ([]api.Export, api.Errno) {
	var m []api.Export
	for i, x := range l {
		for _, y := range l[:i] {
			if x.Name == y.Name && x != y {
				return nil, api.ErrClash
			}
		}
		if !slices.Contains(m, x) {
			m = append(m, x)
		}
	}
	if len(m) > 2000 {
		return nil, api.ErrLong
	}
	return m, api.OK
}

// standingName is a name that stands in a source, and what it has to denote: any kind if it is 0, and any arity if it is -1.
type standingName struct {
	name        string
	kind, arity int
}

func (r rules) names() []standingName {
	var l []standingName
	for _, d := range r.Defs {
		for _, name := range d.Class.Supers {
			l = append(l, standingName{name, api.DfClass, -1})
		}
		for _, s := range d.Class.Slots {
			l = append(l, standingName{s.Name, api.DfGeneric, 1}, standingName{s.Name + "-setter", api.DfGeneric, 2})
			l = append(l, namesOfType(s.Type)...)
			for _, e := range s.Init {
				l = append(l, namesOf(e, nil)...)
			}
		}
		switch d.Kind {
		case api.DfMethod:
			l = append(l, standingName{d.Method.Generic, api.DfGeneric, -1})
			var bound []string
			for _, p := range d.Method.Params {
				l = append(l, namesOfType(p.Type)...)
				bound = append(bound, p.Name)
			}
			l = append(l, namesOfType(d.Method.Result)...)
			l = append(l, namesOf(d.Method.Body, bound)...)
		case api.DfDomain:
			l = append(l, standingName{d.Domain.Generic, api.DfGeneric, -1})
			for _, t := range d.Domain.Types {
				l = append(l, namesOfType(t)...)
			}
		case api.DfConst:
			l = append(l, namesOf(d.Body, nil)...)
		}
	}
	for _, e := range r.Main {
		l = append(l, namesOf(e, nil)...)
	}
	return l
}

func namesOfType(t api.Type) []standingName {
	var l []standingName
	if t.Kind == api.TyClass || t.Kind == api.TySub {
		l = append(l, standingName{t.Name, api.DfClass, -1})
	}
	for _, a := range t.Args {
		l = append(l, namesOfType(a)...)
	}
	return l
}

func namesOf(e api.Expr, bound []string) []standingName {
	l := namesOfType(e.Type)
	for _, p := range e.Params {
		l = append(l, namesOfType(p.Type)...)
	}
	if e.Kind == api.ExVar && !slices.Contains(bound, e.Name) {
		l = append(l, standingName{unmarked(e.Name), 0, -1})
	}
	for i, a := range e.Args {
		l = append(l, namesOf(a, append(slices.Clone(bound), scopeOf(e, i)...))...)
	}
	return l
}

// unmarked is a name without @0 at its end.
func unmarked(name string) string {
	if strings.HasSuffix(name, "@0") {
		return name[:len(name)-2]
	}
	return name
}

// scopeOf is the names that chapter 4 says are bound in an element of Args.
func scopeOf(e api.Expr, i int) []string {
	var l []string
	switch e.Kind {
	case api.ExLet:
		if i == 1 || e.Args[0].Kind == api.ExFn && e.Args[0].Name == e.Name {
			l = append(l, e.Name)
		}
	case api.ExFn:
		if e.Name != "" {
			l = append(l, e.Name)
		}
		for _, p := range e.Params {
			l = append(l, p.Name)
		}
	case api.ExBlock:
		if i == 0 && e.Name != "" {
			l = append(l, e.Name)
		}
	}
	return l
}

// faultOf is the error of names, over a table.
func faultOf(l []standingName, table []api.Export) api.Errno {
	for _, n := range l {
		switch x := exportOf(table, n.name); {
		case x == nil:
			return api.ErrUnbound
		case n.kind != 0 && x.Kind != n.kind || n.arity >= 0 && x.Arity != n.arity:
			return api.ErrSort
		}
	}
	return api.OK
}

// fault is the error of a source that has a table.
func (r rules) fault(table []api.Export) api.Errno {
	if e := faultOf(r.names(), table); e != api.OK {
		return e
	}
	for _, name := range r.Exports {
		if exportOf(table, name) == nil || exportOf(entries("", predefined), name) != nil {
			return api.ErrExport
		}
	}
	return api.OK
}

// replacing is what stands in the place of a name, and of a variable that is not bound.
type replacing struct {
	full     func(string) string
	variable func(string) string
}

// by is the full names of a table. They replace names once these have been found to be right.
func by(table []api.Export) replacing {
	full := func(name string) string { return exportOf(table, name).Full }
	return replacing{full, func(name string) string { return full(unmarked(name)) }}
}

func (l replacing) typ(t api.Type) api.Type {
	switch t.Kind {
	case api.TyClass, api.TySub:
		return api.Type{Kind: t.Kind, Name: l.full(t.Name)}
	case api.TyUnion:
		u := api.Type{Kind: t.Kind}
		for _, a := range t.Args {
			u.Args = append(u.Args, l.typ(a))
		}
		return u
	}
	return t
}

func (l replacing) params(given []api.Param) []api.Param {
	var m []api.Param
	for _, p := range given {
		m = append(m, api.Param{Name: p.Name, Type: l.typ(p.Type)})
	}
	return m
}

func (l replacing) expr(e api.Expr, bound []string) api.Expr {
	x := e
	x.Args = nil
	for i, a := range e.Args {
		x.Args = append(x.Args, l.expr(a, append(slices.Clone(bound), scopeOf(e, i)...)))
	}
	switch e.Kind {
	case api.ExVar:
		if !slices.Contains(bound, e.Name) {
			x.Name = l.variable(e.Name)
		}
	case api.ExFn:
		x.Params = l.params(e.Params)
	case api.ExHandle, api.ExIs:
		x.Type = l.typ(e.Type)
	}
	return x
}

// resolved is what the source has to be resolved to.
func (r rules) resolved(table []api.Export) (api.Library, []api.Expr) {
	l := by(table)
	lib := api.Library{Name: r.Name}
	for _, u := range r.Uses {
		lib.Uses = append(lib.Uses, u.Lib)
	}
	for i, d := range r.Defs {
		x := api.Def{Kind: d.Kind}
		switch d.Kind {
		case api.DfClass:
			lib.Defs = append(lib.Defs, r.class(table, i)...)
			continue
		case api.DfGeneric:
			x.Generic = api.GenericDef{Name: l.full(d.Generic.Name), Arity: d.Generic.Arity, Sealed: d.Generic.Sealed}
		case api.DfMethod:
			var bound []string
			for _, p := range d.Method.Params {
				bound = append(bound, p.Name)
			}
			x.Method = api.MethodDef{Generic: l.full(d.Method.Generic), Params: l.params(d.Method.Params), Result: l.typ(d.Method.Result), Body: l.expr(d.Method.Body, bound)}
		case api.DfDomain:
			x.Domain = api.DomainDef{Generic: l.full(d.Domain.Generic), Types: l.typ(api.Type{Kind: api.TyUnion, Args: d.Domain.Types}).Args}
		case api.DfConst:
			x.Name, x.Body = l.full(d.Name), l.expr(d.Body, nil)
		}
		lib.Defs = append(lib.Defs, x)
	}
	var main []api.Expr
	for _, e := range r.Main {
		main = append(main, l.expr(e, nil))
	}
	return lib, main
}

// class is the class with an index among the definitions, with the generic functions ahead of it and the methods behind it.
func (r rules) class(table []api.Export, index int) []api.Def {
	l := by(table)
	c := r.Defs[index].Class
	var ahead, behind []api.Def
	var before []string // the names of what slots ahead stand for
	for _, d := range r.Defs[:index] {
		for _, s := range d.Class.Slots {
			before = append(before, s.Name, s.Name+"-setter")
		}
	}
	sources := r.entries()
	for _, x := range r.bySlots(r.Defs[index], sources) {
		if !slices.Contains(before, x.Name) && fullOf(sources[2], x.Full) == nil {
			ahead = append(ahead, api.Def{Kind: api.DfGeneric, Generic: api.GenericDef{Name: x.Full, Arity: x.Arity}})
		}
	}
	k := api.ClassDef{Name: c.Name + "@" + r.Name, Abstract: c.Abstract, Sealed: c.Sealed}
	for _, name := range c.Supers {
		k.Supers = append(k.Supers, l.full(name))
	}
	for _, s := range c.Slots {
		if s.Alloc == api.SlVirt {
			continue
		}
		typ := l.typ(s.Type)
		x := api.Slot{Name: l.full(s.Name), Type: typ, Key: s.Key, Alloc: s.Alloc}
		for _, e := range s.Init {
			x.Init = append(x.Init, l.expr(e, nil))
		}
		k.Slots = append(k.Slots, x)
		value := api.Param{Name: "value", Type: typ}
		object := api.Param{Name: "object", Type: api.Type{Kind: api.TyClass, Name: k.Name}}
		v, o := api.Expr{Kind: api.ExVar, Name: "value"}, api.Expr{Kind: api.ExVar, Name: "object"}
		get := api.MethodDef{Generic: x.Name, Params: []api.Param{object}, Result: typ, Body: api.Expr{Kind: api.ExSlot, Name: x.Name, Args: []api.Expr{o}}}
		set := api.MethodDef{Generic: l.full(s.Name + "-setter"), Params: []api.Param{value, object}, Result: typ, Body: api.Expr{Kind: api.ExSet, Name: x.Name, Args: []api.Expr{o, v}}}
		behind = append(behind, api.Def{Kind: api.DfMethod, Method: get}, api.Def{Kind: api.DfMethod, Method: set})
	}
	return slices.Concat(ahead, []api.Def{{Kind: api.DfClass, Class: k}}, behind)
}

// missing is what Missing has to return.
func (r rules) missing(table []api.Export) []string {
	var l []string
	for _, n := range r.names() {
		if exportOf(table, n.name) == nil && !slices.Contains(l, n.name) {
			l = append(l, n.name)
		}
	}
	slices.Sort(l)
	return l
}

// P5.1: all functions, for sources by chance.
func TestByTheRules(t *testing.T) {
	m := newMaker(1)
	counts := map[api.Errno]int{}
	patches := 0
	for range 5000 {
		s, faces := m.source()
		again, facesAgain := whole(s), whole(faces)
		r := rules{s, faces}
		table, e := r.table()
		got, err := Table(s, faces)
		if err != e || !same(got, table) {
			t.Fatalf("Table(%v, %v) = %s, %d; expected %s, %d", s, faces, showEntries(got), err, showEntries(table), e)
		}
		missing, err := Missing(s, faces)
		if err != e || e == api.OK && !slices.Equal(missing, r.missing(table)) {
			t.Fatalf("Missing(%v, %v) = %q, %d; expected %q, %d", s, faces, missing, err, r.missing(table), e)
		}
		var lib api.Library
		var main []api.Expr
		if e == api.OK {
			e = r.fault(table)
		}
		if e == api.OK {
			lib, main = r.resolved(table)
		}
		l, x, err := Resolve(s, faces)
		if err != e || !same(l, lib) || !same(x, main) {
			t.Fatalf("Resolve(%v, %v) = %s, %d; expected %s, %d", s, faces, showLibrary(l, x), err, showLibrary(lib, main), e)
		}
		if !apart(l, x, s, faces) || whole(s) != again || whole(faces) != facesAgain {
			t.Fatalf("Resolve(%v, %v) shares memory, or changes its arguments", s, faces)
		}
		r.checkFaces(t, table, e)
		counts[e]++
		if e == api.OK && s.Patch {
			patches++
		}
	}
	for e, least := range map[api.Errno]int{api.OK: 2500, api.ErrForm: 50, api.ErrFace: 10, api.ErrUse: 40, api.ErrExport: 50, api.ErrQual: 40, api.ErrClash: 500, api.ErrUnbound: 150, api.ErrSort: 80} {
		if counts[e] < least {
			t.Errorf("the error %d was returned %d times", e, counts[e])
		}
	}
	if patches < 300 {
		t.Errorf("only %d patches were resolved", patches)
	}
}

// checkFaces checks Faced and Whole of a source that has a table, and an error.
func (r rules) checkFaces(t *testing.T, table []api.Export, e api.Errno) {
	t.Helper()
	var faced, all api.Face
	if e == api.OK {
		faced.Lib, all.Lib = r.Name, r.Name
		for _, name := range r.Exports {
			faced.Names = append(faced.Names, *exportOf(table, name))
		}
		all.Names = table[11:]
	}
	if f, err := Faced(r.Source, r.faces); err != e || !same(f, faced) {
		t.Fatalf("Faced(%v, %v) = %v, %d; expected %v, %d", r.Source, r.faces, f, err, faced, e)
	}
	if w, err := Whole(r.Source, r.faces); err != e || !same(w, all) {
		t.Fatalf("Whole(%v, %v) = %v, %d; expected %v, %d", r.Source, r.faces, w, err, all, e)
	}
}

// P5.1: Expr, Type and Globals, over tables by chance in which some names stand more than once.
func TestExprByTheRules(t *testing.T) {
	m := newMaker(2)
	counts := map[api.Errno]int{}
	for range 6000 {
		table := slices.Concat(m.face("geo").Names, m.face("two").Names, m.face("b").Names)
		m.names, m.classes = []string{"v"}, nil
		for _, x := range table {
			m.names = append(m.names, x.Name)
			if first := exportOf(table, x.Name); first.Kind == api.DfClass {
				m.classes = append(m.classes, x.Name)
			}
		}
		m.names[0] = m.names[len(m.names)-1]
		e := m.expr(4, nil)
		var want api.Expr
		fault := faultOf(namesOf(e, nil), table)
		if fault == api.OK {
			want = by(table).expr(e, nil)
		}
		if got, err := Expr(table, e); err != fault || !same(got, want) || !apart(got, e, table) {
			t.Fatalf("Expr(%s, %s) = %s, %d; expected %s, %d", showEntries(table), show(e), show(got), err, show(want), fault)
		}
		counts[fault]++
		var l []string
		for _, n := range namesOf(e, nil) {
			if n.kind == 0 && !slices.Contains(l, n.name) {
				l = append(l, n.name)
			}
		}
		if got := Globals(e); !slices.Equal(got, l) {
			t.Fatalf("Globals(%s) = %q; expected %q", show(e), got, l)
		}
		x := m.typ(3)
		var typ api.Type
		if fault = faultOf(namesOfType(x), table); fault == api.OK {
			typ = by(table).typ(x)
		}
		if got, err := Type(table, x); err != fault || !same(got, typ) {
			t.Fatalf("Type(%s, %s) = %s, %d; expected %s, %d", showEntries(table), showType(x), showType(got), err, showType(typ), fault)
		}
	}
	if counts[api.OK] < 2000 || counts[api.ErrUnbound] < 100 || counts[api.ErrSort] < 40 {
		t.Errorf("the errors are %v", counts)
	}
}
