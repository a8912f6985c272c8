package library

import (
	"fmt"
	"reflect"
	"slices"
	"strconv"
	"strings"
	"testing"

	"skerry/api"
	"skerry/lists"
)

// build returns the unit of a text, which has to be right.
func build(t *testing.T, text string, used ...api.Interface) api.Unit {
	t.Helper()
	u, x, e := Build(text, used)
	if e != api.OK || x != (api.Trouble{}) {
		t.Fatalf("Build(%s) = %v, %d", text, x, e)
	}
	return u
}

// shown returns the interface of the library that a text is.
func shown(t *testing.T, text string, used ...api.Interface) api.Interface {
	t.Helper()
	return build(t, text, used...).Interface
}

// source returns the source of a text without macros.
func source(t *testing.T, text string) api.Source {
	t.Helper()
	s, _, x, e := Front(text, nil)
	if e != api.OK {
		t.Fatalf("Front(%s) = %v, %d", text, x, e)
	}
	return s
}

// macros returns the macros that a text defines behind the name of a library.
func macros(t *testing.T, text string) []api.Macro {
	t.Helper()
	_, l, x, e := Front("library m; "+text, nil)
	if e != api.OK {
		t.Fatalf("Front(%s) = %v, %d", text, x, e)
	}
	return l
}

// plain is an interface that has nothing.
func plain(lib string) api.Interface {
	return api.Interface{Face: api.Face{Lib: lib}, Whole: api.Face{Lib: lib}}
}

// plains is interfaces of n libraries.
func plains(n int) []api.Interface {
	var l []api.Interface
	for i := range n {
		l = append(l, plain("l"+strconv.Itoa(i)))
	}
	return l
}

// functions is n function macros with names that begin alike.
func functions(name string, n int) string {
	return numbered(n, "define macro "+name+"# { "+name+"# ( ) } => { # } end;")
}

// statements is n statement macros with names that begin alike.
func statements(name string, n int) string {
	return numbered(n, "define macro "+name+"# { "+name+"# end } => { # } end;")
}

// constants is n constants with names that begin alike.
func constants(name string, n int) string {
	return numbered(n, "define constant "+name+"# = #;")
}

func times(n int, s string) string {
	return strings.Repeat(s, n)
}

// numbered is n texts with a number in the place of #, with spaces between them.
func numbered(n int, s string) string {
	var l []string
	for i := range n {
		l = append(l, strings.ReplaceAll(s, "#", strconv.Itoa(i)))
	}
	return strings.Join(l, " ")
}

func names(l []api.Macro) string {
	return strings.Join(lists.Each(l, macroName), " ")
}

func libs(l []api.Interface) string {
	return strings.Join(lists.Each(l, libOf), " ")
}

func indices(l []int) string {
	return strings.Join(lists.Each(l, strconv.Itoa), " ")
}

// same tells whether two values are equal, where nil lists and empty ones are the same.
func same(a, b any) bool {
	return whole(a) == whole(b)
}

// whole writes all of a value.
func whole(x any) string {
	return fmt.Sprintf("%+v", x)
}

// memory adds to l where the lists of a value begin that have elements.
func memory(v reflect.Value, l []uintptr) []uintptr {
	switch v.Kind() {
	case reflect.Slice:
		if v.Len() > 0 {
			l = append(l, v.Pointer())
		}
		for i := range v.Len() {
			l = memory(v.Index(i), l)
		}
	case reflect.Struct:
		for i := range v.NumField() {
			l = memory(v.Field(i), l)
		}
	}
	return l
}

// apart tells whether no two lists of some values have the same memory.
func apart(values ...any) bool {
	var l []uintptr
	for _, v := range values {
		l = memory(reflect.ValueOf(v), l)
	}
	n := len(l)
	slices.Sort(l)
	return len(slices.Compact(l)) == n
}
