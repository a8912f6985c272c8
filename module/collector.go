package module

import (
	"iter"

	"skerry/api"
	"skerry/lex"
	"skerry/lists"
	"skerry/syntax"
)

// collector collects the entries of the table of a source.
type collector struct {
	api.Source
	faces []api.Face
	taken map[string]bool // the names that a slot does not introduce, as use clauses, the patched library or a generic function have them
	kept  map[string]bool // the full names of what a patched library has
}

// tabulate returns the table of a source, or the first of the errors that the source has up to there.
func tabulate(s api.Source, faces []api.Face) (*dictionary, api.Errno) {
	if e := syntax.Check(s); e != api.OK {
		return nil, e
	}
	if e := CheckFaces(faces); e != api.OK {
		return nil, e
	}
	c := &collector{Source: s, faces: faces}
	switch {
	case !c.rightUses():
		return nil, api.ErrUse
	case !lists.All(s.Uses, c.rightImports):
		return nil, api.ErrExport
	case !c.rightNames():
		return nil, api.ErrQual
	}
	d, ok := c.collect()
	switch {
	case !ok:
		return nil, api.ErrClash
	case len(d.entries) > maxEntries:
		return nil, api.ErrLong
	}
	return d, api.OK
}

// rightUses tells whether there is a face for each library that is used, or patched.
func (c *collector) rightUses() bool {
	if _, ok := faceOf(c.faces, c.Name); c.Patch && !ok {
		return false
	}
	return lists.All(c.Uses, func(u api.Use) bool {
		_, ok := faceOf(c.faces, u.Lib)
		return ok && u.Lib != c.Name
	})
}

func (c *collector) rightImports(u api.Use) bool {
	f, _ := faceOf(c.faces, u.Lib)
	return lists.All(u.Names, func(r api.Rename) bool {
		_, ok := nameOf(f, r.From)
		return ok
	})
}

// rightNames tells whether all that use clauses bring has plain names, and all that is defined, or could be by a slot, has a full name.
func (c *collector) rightNames() bool {
	for x := range c.used {
		if !lex.IsPlain(x.Name) {
			return false
		}
	}
	possible := func(x api.Export) bool {
		_, ok := Full(x.Name, c.Name)
		return ok
	}
	return lists.All(c.Defs, func(d api.Def) bool {
		return lists.All(named(d), possible) && lists.All(functionsOf(d.Class.Slots), possible)
	})
}

// collect returns the table, and whether no two entries clash.
func (c *collector) collect() (*dictionary, bool) {
	c.note()
	d := newDictionary()
	for _, entries := range []iter.Seq[api.Export]{c.predefined, c.used, c.patched, c.defined} {
		for x := range entries {
			if !d.add(x) {
				return nil, false
			}
		}
	}
	for x := range c.introduced {
		d.slots[x.Name] = !c.kept[x.Full]
	}
	return d, true
}

// note notes the names that are there already when slots introduce theirs.
func (c *collector) note() {
	c.taken, c.kept = map[string]bool{}, map[string]bool{}
	for x := range c.used {
		c.taken[x.Name] = true
	}
	for x := range c.patched {
		c.taken[x.Name] = true
		c.kept[x.Full] = true
	}
	for _, d := range c.Defs {
		if d.Kind == api.DfGeneric {
			c.taken[d.Generic.Name] = true
		}
	}
}

func (c *collector) predefined(yield func(api.Export) bool) {
	for _, name := range predefinedClasses() {
		if !yield(api.Export{Name: name, Full: name, Kind: api.DfClass}) {
			return
		}
	}
}

// used yields what use clauses bring.
func (c *collector) used(yield func(api.Export) bool) {
	for _, u := range c.Uses {
		f, _ := faceOf(c.faces, u.Lib)
		if !lists.All(brought(u, f), yield) {
			return
		}
	}
}

// patched yields the names of the library that a patch changes.
func (c *collector) patched(yield func(api.Export) bool) {
	if c.Patch {
		f, _ := faceOf(c.faces, c.Name)
		lists.All(f.Names, yield)
	}
}

// defined yields what definitions introduce.
func (c *collector) defined(yield func(api.Export) bool) {
	for _, d := range c.Defs {
		if !lists.All(c.owned(named(d)), yield) || !lists.All(c.ofSlots(d), yield) {
			return
		}
	}
}

// introduced yields what slots introduce.
func (c *collector) introduced(yield func(api.Export) bool) {
	for _, d := range c.Defs {
		if !lists.All(c.ofSlots(d), yield) {
			return
		}
	}
}

// ofSlots is the entries that the slots of a definition introduce.
func (c *collector) ofSlots(d api.Def) []api.Export {
	var l []api.Export
	for _, x := range functionsOf(d.Class.Slots) {
		if !c.taken[x.Name] {
			l = append(l, x)
		}
	}
	return c.owned(l)
}

// owned is entries with the full names of definitions of the source.
func (c *collector) owned(l []api.Export) []api.Export {
	return lists.Each(l, func(x api.Export) api.Export {
		x.Full, _ = Full(x.Name, c.Name)
		return x
	})
}

// named is the entry, without a full name, of a definition that has a name.
func named(d api.Def) []api.Export {
	switch d.Kind {
	case api.DfClass:
		return []api.Export{{Name: d.Class.Name, Kind: api.DfClass}}
	case api.DfGeneric:
		return []api.Export{{Name: d.Generic.Name, Kind: api.DfGeneric, Arity: d.Generic.Arity}}
	case api.DfConst:
		return []api.Export{{Name: d.Name, Kind: api.DfConst}}
	}
	return nil
}

// functionsOf is the entries, without full names, of the generic functions that slots stand for.
func functionsOf(slots []api.Slot) []api.Export {
	var l []api.Export
	for _, s := range slots {
		l = append(l,
			api.Export{Name: s.Name, Kind: api.DfGeneric, Arity: 1},
			api.Export{Name: syntax.Setter(s.Name), Kind: api.DfGeneric, Arity: 2})
	}
	return l
}
