package module

import (
	"fmt"
	"slices"
	"strings"
	"testing"

	"skerry/api"
	"skerry/lists"
	"skerry/syntax"
)

// right returns sources and faces by chance that can be resolved, with the rules for them and their tables.
func right(t *testing.T, seed int64, count int, try func(m *maker, r rules, table []api.Export)) {
	t.Helper()
	m := newMaker(seed)
	m.plain, m.flawless = true, true
	tried := 0
	for range count {
		s, faces := m.source()
		if _, _, e := Resolve(s, faces); e != api.OK {
			continue
		}
		tried++
		table, e := Table(s, faces)
		if e != api.OK {
			t.Fatalf("Table(%v, %v) = %d", s, faces, e)
		}
		try(m, rules{s, faces}, table)
	}
	if tried < count/2 {
		t.Errorf("of %d sources %d can be resolved", count, tried)
	}
}

func (r rules) resolve(t *testing.T) (api.Library, []api.Expr) {
	t.Helper()
	l, main, e := Resolve(r.Source, r.faces)
	if e != api.OK {
		t.Fatalf("Resolve(%v, %v) = %d", r.Source, r.faces, e)
	}
	return l, main
}

// nameOfDef is the name that a definition introduces, if it introduces one.
func nameOfDef(d api.Def) string {
	return d.Class.Name + d.Generic.Name + d.Name
}

// twice tells whether a source defines a name twice.
func (r rules) twice() bool {
	seen := map[string]bool{}
	for _, d := range r.Defs {
		name := nameOfDef(d)
		if name != "" && seen[name] {
			return true
		}
		seen[name] = true
	}
	return false
}

// P5.2
func TestClosed(t *testing.T) {
	own := 0
	right(t, 11, 2500, func(m *maker, r rules, table []api.Export) {
		l, main := r.resolve(t)
		for _, n := range (rules{Source: api.Source{Defs: l.Defs, Main: main}}).names() {
			if strings.HasSuffix(n.name, "-setter") && n.arity == 2 {
				continue // that of a full name is not what the setter is named
			}
			if !slices.ContainsFunc(table, func(x api.Export) bool { return x.Full == n.name && (n.kind == 0 || x.Kind == n.kind) }) {
				t.Fatalf("%s is no entry of %s", n.name, showEntries(table))
			}
		}
		sources := r.entries()
		seen := map[string]bool{}
		for _, d := range l.Defs {
			name := nameOfDef(d)
			if name == "" {
				continue
			}
			owned := fullOf(sources[3], name) != nil && fullOf(sources[2], name) == nil
			if !owned && !(r.Patch && fullOf(sources[2], name) != nil) {
				t.Fatalf("Resolve(%v) introduces %s", r.Source, name)
			}
			if seen[name] && !r.twice() {
				t.Fatalf("Resolve(%v) introduces %s twice", r.Source, name)
			}
			seen[name] = true
			own++
		}
	})
	if own < 1000 {
		t.Errorf("only %d definitions introduce names", own)
	}
}

// renaming is an expression in which some variables that it binds have other names.
func (m *maker) renaming(e api.Expr, names map[string]string) api.Expr {
	inner := map[string]string{}
	for i := range e.Args {
		for _, name := range scopeOf(e, i) {
			if inner[name] = name; name != "%|" && m.Intn(3) > 0 {
				inner[name] = fmt.Sprint("n", m.Int31())
			}
		}
	}
	params := lists.Each(e.Params, paramName)
	if e.Kind == api.ExFn && e.Name != "" && !slices.Contains(params, e.Name) { // it is bound by the let
		inner[e.Name] = names[e.Name]
	}
	x := e
	x.Args, x.Params = nil, nil
	for i, a := range e.Args {
		within := map[string]string{}
		for k, v := range names {
			within[k] = v
		}
		for _, name := range scopeOf(e, i) {
			within[name] = inner[name]
		}
		x.Args = append(x.Args, m.renaming(a, within))
	}
	for _, p := range e.Params {
		x.Params = append(x.Params, api.Param{Name: inner[p.Name], Type: p.Type})
	}
	switch e.Kind {
	case api.ExVar, api.ExFn:
		if name, ok := names[e.Name]; ok {
			x.Name = name
		}
	case api.ExLet, api.ExBlock:
		x.Name = inner[e.Name]
	}
	return x
}

func paramName(p api.Param) string {
	return p.Name
}

// bodies returns where the expressions of definitions and main expressions stand.
func bodies(defs []api.Def, main []api.Expr) []*api.Expr {
	var l []*api.Expr
	for i := range defs {
		d := &defs[i]
		for k := range d.Class.Slots {
			for n := range d.Class.Slots[k].Init {
				l = append(l, &d.Class.Slots[k].Init[n])
			}
		}
		switch d.Kind {
		case api.DfMethod:
			l = append(l, &d.Method.Body)
		case api.DfConst:
			l = append(l, &d.Body)
		}
	}
	for i := range main {
		l = append(l, &main[i])
	}
	return l
}

// alphas tells whether expressions are Alpha, one by one. What accessors do is no source expression, and has to be the same.
func alphas(a, b []*api.Expr) bool {
	return slices.EqualFunc(a, b, func(x, y *api.Expr) bool { return syntax.Alpha(*x, *y) || x.Kind > api.ExIs && same(*x, *y) })
}

// P5.3
func TestLocals(t *testing.T) {
	changed := 0
	right(t, 12, 2500, func(m *maker, r rules, table []api.Export) {
		l, main := r.resolve(t)
		given := bodies(r.Defs, r.Main)
		before := whole(r.Source)
		var olds []*api.Expr
		for _, e := range given {
			old := *e
			olds = append(olds, &old)
			*e = m.renaming(*e, map[string]string{})
		}
		if !alphas(olds, given) {
			t.Fatalf("%s is not Alpha to %v", before, r.Source)
		}
		l2, main2 := r.resolve(t)
		if !alphas(bodies(l.Defs, main), bodies(l2.Defs, main2)) || len(l.Defs) != len(l2.Defs) {
			t.Fatalf("Resolve(%s) = %s, but Resolve(%v) = %s", before, showLibrary(l, main), r.Source, showLibrary(l2, main2))
		}
		if whole(r.Source) != before {
			changed++
		}
	})
	if changed < 500 {
		t.Errorf("only %d sources were changed", changed)
	}
}

// renamed is a source whose global names are others.
func (r rules) renamed(other func(string) string) api.Source {
	l := replacing{other, func(name string) string {
		if plain := unmarked(name); plain != name {
			return other(plain) + "@0"
		}
		return other(name)
	}}
	s := r.Source
	s.Defs, s.Main = nil, nil
	for _, d := range r.Defs {
		c, m := d.Class, d.Method
		d.Class.Supers, d.Class.Slots = lists.Each(c.Supers, other), nil
		for _, slot := range c.Slots {
			slot.Type = l.typ(slot.Type)
			slot.Init = lists.Each(slot.Init, func(e api.Expr) api.Expr { return l.expr(e, nil) })
			d.Class.Slots = append(d.Class.Slots, slot)
		}
		switch d.Kind {
		case api.DfMethod:
			d.Method = api.MethodDef{Generic: other(m.Generic), Params: l.params(m.Params), Result: l.typ(m.Result), Body: l.expr(m.Body, paramNames(m.Params))}
		case api.DfDomain:
			d.Domain = api.DomainDef{Generic: other(d.Domain.Generic), Types: lists.Each(d.Domain.Types, l.typ)}
		case api.DfConst:
			d.Body = l.expr(d.Body, nil)
		}
		s.Defs = append(s.Defs, d)
	}
	s.Main = lists.Each(r.Main, func(e api.Expr) api.Expr { return l.expr(e, nil) })
	s.Exports = lists.Each(r.Exports, other)
	return s
}

// P5.4: all that a use clause brings gets a prefix, and so do the names by which a source refers to it.
func TestPrefix(t *testing.T) {
	tried := 0
	right(t, 13, 4000, func(m *maker, r rules, table []api.Export) {
		i := slices.IndexFunc(r.Uses, func(u api.Use) bool { return u.All && len(r.face(u.Lib).Names) > 0 })
		if i < 0 {
			return
		}
		use := r.Uses[i]
		brought := func(name string) bool {
			base, ok := strings.CutPrefix(name, use.Prefix)
			return ok && exportOf(r.face(use.Lib).Names, base) != nil
		}
		if slices.ContainsFunc(r.introduced(), brought) {
			return
		}
		other := func(name string) string {
			if brought(name) {
				return "z_" + strings.TrimPrefix(name, use.Prefix)
			}
			return name
		}
		l, main := r.resolve(t)
		p := rules{r.renamed(other), r.faces}
		p.Uses = slices.Clone(r.Uses)
		p.Uses[i].Prefix = "z_"
		l2, main2 := p.resolve(t)
		if !same(l, l2) || !same(main, main2) {
			t.Fatalf("Resolve(%v) = %s; with the prefix %s", r.Source, showLibrary(l, main), showLibrary(l2, main2))
		}
		list, _ := Table(p.Source, p.faces)
		list = slices.DeleteFunc(list, func(x api.Export) bool { return !strings.HasPrefix(x.Name, "z_") })
		want := lists.Each(r.face(use.Lib).Names, func(x api.Export) api.Export {
			return api.Export{Name: "z_" + x.Name, Full: x.Full, Kind: x.Kind, Arity: x.Arity}
		})
		if !same(list, want) {
			t.Fatalf("the prefix brings %s; expected %s", showEntries(list), showEntries(want))
		}
		if !same(r.Source.Defs, p.Defs) {
			tried++
		}
	})
	if tried < 200 {
		t.Errorf("only %d sources have a name that gets a prefix", tried)
	}
}

// P5.5
func TestUses(t *testing.T) {
	several := 0
	right(t, 14, 2500, func(m *maker, r rules, table []api.Export) {
		l, main := r.resolve(t)
		p := rules{r.Source, slices.Clone(r.faces)}
		p.Uses = slices.Clone(r.Uses)
		m.Shuffle(len(p.Uses), func(i, j int) { p.Uses[i], p.Uses[j] = p.Uses[j], p.Uses[i] })
		l2, main2 := p.resolve(t)
		if !same(l.Defs, l2.Defs) || !same(main, main2) || !same(l2.Uses, lists.Each(p.Uses, func(u api.Use) string { return u.Lib })) {
			t.Fatalf("Resolve(%v) = %s; with Uses in another order %s", r.Source, showLibrary(l, main), showLibrary(l2, main2))
		}
		if len(r.Uses) > 1 {
			several++
		}
		more := rules{r.Source, slices.Insert(slices.Clone(r.faces), m.Intn(len(r.faces)+1), m.face("more"))}
		l2, main2 = more.resolve(t)
		list, e := Table(more.Source, more.faces)
		if !same(l, l2) || !same(main, main2) || !same(list, table) || e != api.OK {
			t.Fatalf("a further face changes %s to %s", showLibrary(l, main), showLibrary(l2, main2))
		}
		more.checkFaces(t, table, api.OK)
	})
	if several < 500 {
		t.Errorf("only %d sources use several libraries", several)
	}
}

// P5.6
func TestExported(t *testing.T) {
	exported := 0
	right(t, 15, 2500, func(m *maker, r rules, table []api.Export) {
		f, _ := Faced(r.Source, r.faces)
		w, _ := Whole(r.Source, r.faces)
		for _, x := range []api.Face{f, w} {
			if e := CheckFaces([]api.Face{x}); e != api.OK || x.Lib != r.Name {
				t.Fatalf("%v of %v is not right", x, r.Source)
			}
		}
		user := api.Source{Name: "user", Uses: []api.Use{{Lib: r.Name, All: true}}}
		list, e := Table(user, []api.Face{f})
		if e != api.OK || !same(list[11:], f.Names) {
			t.Fatalf("Table = %s, %d; expected the entries of %v", showEntries(list), e, f)
		}
		for _, x := range f.Names {
			exported++
			if fullOf(w.Names, x.Full) == nil {
				t.Fatalf("%v is not in %v", x, w)
			}
			user.Uses[0] = api.Use{Lib: r.Name, Names: []api.Rename{{From: x.Name, To: "z_"}}}
			user.Main = []api.Expr{{Kind: api.ExVar, Name: "z_"}}
			if _, main, e := Resolve(user, []api.Face{f}); e != api.OK || main[0].Name != x.Full || x.Full != exportOf(table, x.Name).Full {
				t.Fatalf("%v is imported as %v, %d", x, main, e)
			}
		}
	})
	if exported < 500 {
		t.Errorf("only %d names were exported", exported)
	}
}

// P5.7
func TestMissingNames(t *testing.T) {
	m := newMaker(16)
	given, without := 0, 0
	for range 4000 {
		s, faces := m.source()
		missing, e := Missing(s, faces)
		if e != api.OK {
			continue
		}
		if len(missing) == 0 {
			without++
			if _, _, e := Resolve(s, faces); e == api.ErrUnbound {
				t.Fatalf("Resolve(%v, %v) lacks a name, but Missing does not", s, faces)
			}
		} else if _, _, e := Resolve(s, faces); e != api.ErrUnbound && e != api.ErrSort {
			t.Fatalf("Missing(%v, %v) = %q, but Resolve %d", s, faces, missing, e)
		}
		for _, name := range missing {
			more := s
			more.Defs = append(slices.Clone(s.Defs), api.Def{Kind: api.DfConst, Name: name, Body: api.Expr{Kind: api.ExNum}})
			if syntax.Check(more) != api.OK {
				continue // the name is qualified
			}
			given++
			rest := slices.DeleteFunc(slices.Clone(missing), func(x string) bool { return x == name })
			if got, e := Missing(more, faces); e != api.OK || !slices.Equal(got, rest) {
				t.Fatalf("Missing(%v) = %q, %d; expected %q", more, got, e, rest)
			}
		}
	}
	if given < 50 || without < 1000 {
		t.Errorf("%d names were given; of %d sources none is missing", given, without)
	}
}

// P5.8
func TestSlots(t *testing.T) {
	counts := map[int]int{}
	right(t, 17, 2500, func(m *maker, r rules, table []api.Export) {
		l, _ := r.resolve(t)
		at := 0
		for _, d := range r.Defs {
			if d.Kind != api.DfClass {
				continue
			}
			for l.Defs[at].Kind != api.DfClass {
				at++
			}
			c := l.Defs[at].Class
			at++
			for _, s := range d.Class.Slots {
				counts[s.Alloc]++
				if s.Alloc == api.SlVirt {
					continue
				}
				getter, setter := exportOf(table, s.Name).Full, exportOf(table, s.Name+"-setter").Full
				if c.Slots[0].Name != getter || l.Defs[at].Method.Generic != getter || l.Defs[at+1].Method.Generic != setter {
					t.Fatalf("Resolve(%v) = %s, without the accessors of %s", r.Source, showLibrary(l, nil), s.Name)
				}
				if get, set := l.Defs[at].Method.Body, l.Defs[at+1].Method.Body; get.Kind != api.ExSlot || get.Name != getter || set.Kind != api.ExSet || set.Name != getter {
					t.Fatalf("the accessors of %s are %v and %v", getter, get, set)
				}
				at, c.Slots = at+2, c.Slots[1:]
			}
			if len(c.Slots) != 0 {
				t.Fatalf("Resolve(%v) has the further slots %v", r.Source, c.Slots)
			}
		}
	})
	for alloc := api.SlInst; alloc <= api.SlVirt; alloc++ {
		if counts[alloc] < 100 {
			t.Errorf("slots are allocated as %v", counts)
		}
	}
}

// P5.9
func TestParts(t *testing.T) {
	shorter := 0
	right(t, 18, 2500, func(m *maker, r rules, table []api.Export) {
		l, main := r.resolve(t)
		for n := len(r.Defs) - 1; n >= 0 && r.Defs[n].Kind != api.DfGeneric; n-- {
			r.Defs = r.Defs[:n]
			part, again, e := Resolve(r.Source, r.faces)
			if e != api.OK {
				continue
			}
			shorter++
			if len(part.Defs) > len(l.Defs) || !same(part.Defs, l.Defs[:len(part.Defs)]) || !same(main, again) {
				t.Fatalf("Resolve = %s; with further definitions %s", showLibrary(part, again), showLibrary(l, main))
			}
		}
		empty := api.Source{Name: r.Name, Main: r.Main}
		if l, main, e := Resolve(empty, r.faces); len(l.Defs)+len(l.Uses) > 0 || e != api.OK && (main != nil || l.Name != "") {
			t.Fatalf("Resolve of no definitions = %s, %d", showLibrary(l, main), e)
		}
	})
	if shorter < 500 {
		t.Errorf("only %d sources without their last definition were resolved", shorter)
	}
}
