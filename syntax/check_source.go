package syntax

import (
	"skerry/api"
	"skerry/lists"
)

// rightSource tells whether a source whose extent is right is well-formed.
func rightSource(s api.Source) bool {
	if s.Patch && len(s.Main)+len(s.Uses)+len(s.Exports) > 0 {
		return false
	}
	libs := lists.Each(s.Uses, func(u api.Use) string { return u.Lib })
	return isLibrary(s.Name) &&
		len(s.Uses) <= api.MaxLibs && distinct(libs, isLibrary) && lists.All(s.Uses, rightUse) &&
		len(s.Exports) <= api.MaxArgs && distinct(s.Exports, isPlain) &&
		len(s.Defs) <= api.MaxDefs && lists.All(s.Defs, rightDefinition) &&
		len(s.Main) <= 1 && lists.All(s.Main, rightAlone)
}

// rightAlone tells whether an expression that is not part of another one is well-formed.
func rightAlone(e api.Expr) bool {
	return rightExpr(e, "")
}

func rightUse(u api.Use) bool {
	if u.All {
		return len(u.Names) == 0 && (u.Prefix == "" || isPlain(u.Prefix))
	}
	both := func(r api.Rename) bool { return isPlain(r.From) && isPlain(r.To) }
	return u.Prefix == "" && 1 <= len(u.Names) && len(u.Names) <= api.MaxArgs && lists.All(u.Names, both)
}

func rightDefinition(d api.Def) bool {
	right := false
	switch d.Kind {
	case api.DfClass:
		right = rightClass(d.Class)
		d.Class = api.ClassDef{}
	case api.DfGeneric:
		right = isPlain(d.Generic.Name) && 0 <= d.Generic.Arity && d.Generic.Arity <= api.MaxParams
		d.Generic = api.GenericDef{}
	case api.DfMethod:
		right = isName(d.Method.Generic) && rightParams(d.Method.Params) && rightType(d.Method.Result) && rightAlone(d.Method.Body)
		d.Method = api.MethodDef{}
	case api.DfDomain:
		right = isName(d.Domain.Generic) && len(d.Domain.Types) <= api.MaxParams && lists.All(d.Domain.Types, rightType)
		d.Domain = api.DomainDef{}
	case api.DfConst:
		right = isPlain(d.Name) && rightAlone(d.Body)
		d.Name, d.Body = "", api.Expr{}
	}
	return right && isEmpty(d)
}

// isEmpty tells whether all fields of a definition but Kind are zero.
func isEmpty(d api.Def) bool {
	c, m := d.Class, d.Method
	return c.Name == "" && len(c.Supers) == 0 && len(c.Slots) == 0 && !c.Abstract && !c.Sealed &&
		d.Generic == api.GenericDef{} &&
		m.Generic == "" && len(m.Params) == 0 && isNoType(m.Result) && isNoExpr(m.Body) &&
		d.Domain.Generic == "" && len(d.Domain.Types) == 0 &&
		d.Name == "" && isNoExpr(d.Body)
}

func rightClass(c api.ClassDef) bool {
	names := lists.Each(c.Slots, func(s api.Slot) string { return s.Name })
	return isPlain(c.Name) &&
		1 <= len(c.Supers) && len(c.Supers) <= api.MaxSupers && lists.All(c.Supers, isName) &&
		len(c.Slots) <= api.MaxSlots && distinct(names, isPlain) && lists.All(c.Slots, rightSlot)
}

func rightSlot(s api.Slot) bool {
	if s.Alloc < api.SlInst || s.Alloc > api.SlVirt || s.Alloc == api.SlVirt && (s.Key != "" || len(s.Init) > 0) {
		return false
	}
	return rightType(s.Type) && (s.Key == "" || isKey(s.Key)) && len(s.Init) <= 1 && lists.All(s.Init, rightAlone)
}
