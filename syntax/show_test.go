package syntax

import (
	"fmt"
	"reflect"
	"slices"
	"strconv"
	"strings"

	"skerry/api"
	"skerry/lex"
	"skerry/lists"
)

// toks are the tokens of a text whose tokens have blanks between them. A ' and digits behind a token are its mark.
func toks(text string) []api.Token {
	var l []api.Token
	for i, s := range strings.Fields(text) {
		s, mark, _ := strings.Cut(s, "'")
		t := api.Token{Kind: lex.Kind(s), Text: s, At: i}
		t.Num, _ = lex.Number(s)
		t.Mark, _ = strconv.Atoi(mark)
		l = append(l, t)
	}
	return l
}

var kindNames = []string{"", "num", "bool", "var", "call", "if", "let", "seq", "fn", "block", "handle", "next", "make", "prim", "is", "slot", "set", "load"}

// show writes an expression as its kind and the fields that are not zero, in parentheses; integers, booleans and variables by themselves.
func show(e api.Expr) string {
	switch {
	case same(e, api.Expr{Kind: api.ExNum, Num: e.Num}):
		return strconv.Itoa(e.Num)
	case same(e, api.Expr{Kind: api.ExBool}):
		return "#f"
	case same(e, api.Expr{Kind: api.ExBool, Num: 1}):
		return "#t"
	case same(e, api.Expr{Kind: api.ExVar, Name: e.Name}):
		return e.Name
	}
	parts := []string{kindNames[e.Kind]}
	if e.Name != "" {
		parts = append(parts, e.Name)
	}
	if e.Num != 0 {
		parts = append(parts, strconv.Itoa(e.Num))
	}
	if !same(e.Type, api.Type{}) {
		parts = append(parts, showType(e.Type))
	}
	if e.Kind == api.ExFn || len(e.Params) > 0 {
		parts = append(parts, showParams(e.Params))
	}
	for i, a := range e.Args {
		if 0 < i && i <= len(e.Keys) {
			parts = append(parts, e.Keys[i-1]+":")
		}
		parts = append(parts, show(a))
	}
	return "(" + strings.Join(parts, " ") + ")"
}

func showAll[T any](l []T, show func(T) string) string {
	return "[" + strings.Join(lists.Each(l, show), " ") + "]"
}

func showParams(l []api.Param) string {
	return showAll(l, func(p api.Param) string { return p.Name + ":" + showType(p.Type) })
}

func showType(t api.Type) string {
	switch {
	case same(t, api.Type{Kind: api.TyClass, Name: t.Name}):
		return t.Name
	case same(t, api.Type{Kind: api.TyInt, Lo: t.Lo, Hi: t.Hi}):
		return fmt.Sprintf("%d..%d", t.Lo, t.Hi)
	case same(t, api.Type{Kind: api.TyBool, Lo: t.Lo}):
		return "bool" + strconv.Itoa(t.Lo)
	case same(t, api.Type{Kind: api.TySub, Name: t.Name}):
		return "sub:" + t.Name
	case same(t, api.Type{Kind: api.TyUnion, Args: t.Args}):
		return "union" + showAll(t.Args, showType)
	}
	return fmt.Sprintf("%+v", t)
}

// showSource writes a source as its parts, with / between them.
func showSource(s api.Source) string {
	parts := []string{"library " + s.Name}
	if s.Patch {
		parts[0] = "patch " + s.Name
	}
	for _, u := range s.Uses {
		rename := func(r api.Rename) string { return r.From + ">" + r.To }
		parts = append(parts, fmt.Sprintf("use %s %v %s%s", u.Lib, u.All, u.Prefix, showAll(u.Names, rename)))
	}
	if len(s.Exports) > 0 {
		parts = append(parts, fmt.Sprint("export ", s.Exports))
	}
	parts = append(parts, lists.Each(s.Defs, showDefinition)...)
	return strings.Join(append(parts, lists.Each(s.Main, show)...), " / ")
}

func showDefinition(d api.Def) string {
	c, g, m := d.Class, d.Generic, d.Method
	switch {
	case same(d, api.Def{Kind: api.DfClass, Class: c}):
		return fmt.Sprintf("class %s %v %v %v %s", c.Name, c.Supers, c.Abstract, c.Sealed, showAll(c.Slots, showSlot))
	case same(d, api.Def{Kind: api.DfGeneric, Generic: g}):
		return fmt.Sprintf("generic %s %d %v", g.Name, g.Arity, g.Sealed)
	case same(d, api.Def{Kind: api.DfMethod, Method: m}):
		return fmt.Sprintf("method %s %s %s %s", m.Generic, showParams(m.Params), showType(m.Result), show(m.Body))
	case same(d, api.Def{Kind: api.DfDomain, Domain: d.Domain}):
		return fmt.Sprintf("domain %s %s", d.Domain.Generic, showAll(d.Domain.Types, showType))
	case same(d, api.Def{Kind: api.DfConst, Name: d.Name, Body: d.Body}):
		return fmt.Sprintf("constant %s %s", d.Name, show(d.Body))
	}
	return fmt.Sprintf("%+v", d)
}

func showSlot(s api.Slot) string {
	return fmt.Sprintf("%d:%s:%s:%s:%s", s.Alloc, s.Name, showType(s.Type), s.Key, showAll(s.Init, show))
}

// same tells whether two values are equal, where nil lists and empty ones are the same.
func same(a, b any) bool {
	x, y := reflect.ValueOf(a), reflect.ValueOf(b)
	return x.Type() == y.Type() && sameValues(x, y)
}

func sameValues(x, y reflect.Value) bool {
	switch x.Kind() {
	case reflect.Slice:
		if x.Len() != y.Len() {
			return false
		}
		for i := range x.Len() {
			if !sameValues(x.Index(i), y.Index(i)) {
				return false
			}
		}
		return true
	case reflect.Struct:
		for i := range x.NumField() {
			if !sameValues(x.Field(i), y.Field(i)) {
				return false
			}
		}
		return true
	}
	return x.Interface() == y.Interface()
}

// memory returns where the lists of a value begin that have elements.
func memory(x reflect.Value) []uintptr {
	var l []uintptr
	switch x.Kind() {
	case reflect.Slice:
		if x.Len() > 0 {
			l = append(l, x.Pointer())
		}
		for i := range x.Len() {
			l = append(l, memory(x.Index(i))...)
		}
	case reflect.Struct:
		for i := range x.NumField() {
			l = append(l, memory(x.Field(i))...)
		}
	}
	return l
}

// apart tells whether all lists of some values have memory of their own.
func apart(values ...any) bool {
	var l []uintptr
	for _, v := range values {
		l = append(l, memory(reflect.ValueOf(v))...)
	}
	n := len(l)
	slices.Sort(l)
	return len(slices.Compact(l)) == n
}

// The reserved words of the chapter.
var reservedWords = strings.Fields(`abstract begin block class cleanup constant define domain each-subclass else elseif end export generic handler if
	import instance? let library limited load-patch local macro make method next-method object-class patch prefix print quotient sealed signal
	singleton slot subclass type-union use virtual`)

func times(n int, s string) string {
	return strings.Repeat(s, n)
}

// list is a text n times, with another one between two of them.
func list(n int, s, between string) string {
	return strings.Join(slices.Repeat([]string{s}, n), between)
}

// numbered is n texts, with a number in the place of #, with another text between two of them.
func numbered(n int, s, between string) string {
	var l []string
	for i := range n {
		l = append(l, strings.ReplaceAll(s, "#", strconv.Itoa(i)))
	}
	return strings.Join(l, between)
}
