package module

import (
	"fmt"
	"reflect"
	"slices"
	"strconv"
	"strings"
	"testing"

	"skerry/api"
	"skerry/lex"
	"skerry/lists"
	"skerry/syntax"
)

func source(t *testing.T, text string) api.Source {
	t.Helper()
	l, at, e := lex.Scan(text)
	if e != api.OK {
		t.Fatalf("Scan(%s) = %d at %d", text, e, at)
	}
	s, at, e := syntax.ParseTokens(l)
	if e != api.OK {
		t.Fatalf("ParseTokens(%s) = %d at %d", text, e, at)
	}
	return s
}

func expr(t *testing.T, text string) api.Expr {
	t.Helper()
	l, _, _ := lex.Scan(text)
	x, at, e := syntax.ParseExpr(l)
	if e != api.OK {
		t.Fatalf("ParseExpr(%s) = %d at %d", text, e, at)
	}
	return x
}

func typeOf(t *testing.T, text string) api.Type {
	t.Helper()
	l, _, _ := lex.Scan(text)
	x, at, e := syntax.ParseType(l)
	if e != api.OK {
		t.Fatalf("ParseType(%s) = %d at %d", text, e, at)
	}
	return x
}

// entries reads entries that are written as name=full, ahead of which stands class:, const:, or the arity of a generic function and a colon. Without a full name it is the name's in a library.
func entries(lib, text string) []api.Export {
	var l []api.Export
	for _, word := range strings.Fields(text) {
		kind, rest, _ := strings.Cut(word, ":")
		name, full, ok := strings.Cut(rest, "=")
		if !ok {
			full = name + "@" + lib
		}
		x := api.Export{Name: name, Full: full, Kind: api.DfGeneric}
		switch kind {
		case "class":
			x.Kind = api.DfClass
		case "const":
			x.Kind = api.DfConst
		default:
			x.Arity, _ = strconv.Atoi(kind)
		}
		l = append(l, x)
	}
	return l
}

func showEntries(l []api.Export) string {
	return strings.Join(lists.Each(l, func(x api.Export) string {
		kind := strconv.Itoa(x.Arity)
		switch {
		case x.Kind == api.DfClass && x.Arity == 0:
			kind = "class"
		case x.Kind == api.DfConst && x.Arity == 0:
			kind = "const"
		case x.Kind != api.DfGeneric:
			kind = fmt.Sprint(x)
		}
		return kind + ":" + x.Name + "=" + x.Full
	}), " ")
}

func face(lib, text string) api.Face {
	return api.Face{Lib: lib, Names: entries(lib, text)}
}

// showLibrary writes the definitions of a library, and its main expression, as texts with / between them.
func showLibrary(l api.Library, main []api.Expr) string {
	return strings.Join(append(lists.Each(l.Defs, showDef), lists.Each(main, show)...), " / ")
}

func showDef(d api.Def) string {
	c, g, m := d.Class, d.Generic, d.Method
	switch {
	case same(d, api.Def{Kind: api.DfClass, Class: c}):
		return fmt.Sprintf("class %s %v%s%s [%s]", c.Name, c.Supers, flag(" abstract", c.Abstract), flag(" sealed", c.Sealed), strings.Join(lists.Each(c.Slots, showSlot), ", "))
	case same(d, api.Def{Kind: api.DfGeneric, Generic: g}):
		return fmt.Sprintf("generic %s %d%s", g.Name, g.Arity, flag(" sealed", g.Sealed))
	case same(d, api.Def{Kind: api.DfMethod, Method: m}):
		param := func(p api.Param) string { return p.Name + " :: " + showType(p.Type) }
		return fmt.Sprintf("method %s (%s) => %s %s", m.Generic, strings.Join(lists.Each(m.Params, param), ", "), showType(m.Result), show(m.Body))
	case same(d, api.Def{Kind: api.DfDomain, Domain: d.Domain}):
		return fmt.Sprintf("domain %s (%s)", d.Domain.Generic, strings.Join(lists.Each(d.Domain.Types, showType), ", "))
	case same(d, api.Def{Kind: api.DfConst, Name: d.Name, Body: d.Body}):
		return fmt.Sprintf("constant %s %s", d.Name, show(d.Body))
	}
	return fmt.Sprintf("%+v", d)
}

func flag(word string, is bool) string {
	if is {
		return word
	}
	return ""
}

func showSlot(s api.Slot) string {
	text := s.Name + " :: " + showType(s.Type)
	if s.Alloc != api.SlInst {
		text += " alloc " + strconv.Itoa(s.Alloc)
	}
	if s.Key != "" {
		text += " key " + s.Key
	}
	return text + strings.Join(lists.Each(s.Init, func(e api.Expr) string { return " init " + show(e) }), "")
}

// show writes an expression as layer 4 does it, and what accessors do as get and set.
func show(e api.Expr) string {
	args := strings.Join(lists.Each(e.Args, show), ", ")
	switch {
	case same(e, api.Expr{Kind: api.ExSlot, Name: e.Name, Args: e.Args}):
		return "get " + e.Name + "(" + args + ")"
	case same(e, api.Expr{Kind: api.ExSet, Name: e.Name, Args: e.Args}):
		return "set " + e.Name + "(" + args + ")"
	}
	if text, fault := syntax.PrintExpr(e); fault == api.OK {
		return strings.NewReplacer(" ( ", "(", " )", ")", " ,", ",", " ;", ";").Replace(text)
	}
	return fmt.Sprintf("%+v", e)
}

func showType(t api.Type) string {
	if text, e := syntax.PrintType(t); e == api.OK {
		return strings.NewReplacer(" ( ", "(", " )", ")", " ,", ",").Replace(text)
	}
	return fmt.Sprintf("%+v", t)
}

// same tells whether two values are equal, where nil lists and empty ones are the same.
func same(a, b any) bool {
	return whole(a) == whole(b)
}

// whole writes all of a value.
func whole(x any) string {
	return fmt.Sprintf("%+v", x)
}

// memory adds to l where the lists of a value begin that have elements.
func memory(v reflect.Value, l []uintptr) []uintptr {
	switch v.Kind() {
	case reflect.Slice:
		if v.Len() > 0 {
			l = append(l, v.Pointer())
		}
		for i := range v.Len() {
			l = memory(v.Index(i), l)
		}
	case reflect.Struct:
		for i := range v.NumField() {
			l = memory(v.Field(i), l)
		}
	}
	return l
}

// apart tells whether no two lists of some values have the same memory.
func apart(values ...any) bool {
	var l []uintptr
	for _, v := range values {
		l = memory(reflect.ValueOf(v), l)
	}
	n := len(l)
	slices.Sort(l)
	return len(slices.Compact(l)) == n
}

func times(n int, s string) string {
	return strings.Repeat(s, n)
}

// numbered is n texts with a number in the place of #, with spaces between them.
func numbered(n int, s string) string {
	var l []string
	for i := range n {
		l = append(l, strings.ReplaceAll(s, "#", strconv.Itoa(i)))
	}
	return strings.Join(l, " ")
}

const predefined = "class:<object>=<object> class:<integer>=<integer> class:<boolean>=<boolean> class:<class>=<class> class:<function>=<function> " +
	"class:<condition>=<condition> class:<serious-condition>=<serious-condition> class:<warning>=<warning> class:<restart>=<restart> class:<error>=<error> class:<fault>=<fault>"
