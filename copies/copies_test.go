package copies

import (
	"fmt"
	"reflect"
	"testing"
)

// fill gives each field of a value something, down to a depth, and each list two elements.
func fill(v reflect.Value, depth int) {
	switch v.Kind() {
	case reflect.Int:
		v.SetInt(int64(depth + 1))
	case reflect.Bool:
		v.SetBool(true)
	case reflect.String:
		v.SetString(fmt.Sprint("s", depth))
	case reflect.Struct:
		for i := range v.NumField() {
			fill(v.Field(i), depth)
		}
	case reflect.Slice:
		if depth > 0 {
			v.Set(reflect.MakeSlice(v.Type(), 2, 3))
			fill(v.Index(0), depth-1)
			fill(v.Index(1), depth-1)
		}
	}
}

// starts notes where the lists of a value begin.
func starts(v reflect.Value, note func(uintptr)) {
	switch v.Kind() {
	case reflect.Struct:
		for i := range v.NumField() {
			starts(v.Field(i), note)
		}
	case reflect.Slice:
		if v.Len() > 0 {
			note(v.Pointer())
		}
		for i := range v.Len() {
			starts(v.Index(i), note)
		}
	}
}

// check expects a copy to be equal, and to share no memory with what it is a copy of, nor within itself.
func check[T any](t *testing.T, copied func(T) T) {
	t.Helper()
	var x, zero T
	fill(reflect.ValueOf(&x).Elem(), 4)
	c := copied(x)
	if !reflect.DeepEqual(x, c) {
		t.Errorf("a copy of %+v is %+v", x, c)
	}
	seen, count := map[uintptr]bool{}, 0
	for _, v := range []T{x, c} {
		starts(reflect.ValueOf(v), func(p uintptr) {
			seen[p] = true
			count++
		})
	}
	if len(seen) < count || count == 0 {
		t.Errorf("a copy of a %T shares memory", x)
	}
	if c := copied(zero); !reflect.DeepEqual(c, zero) {
		t.Errorf("a copy of a zero %T is %+v", x, c)
	}
}

func TestCopies(t *testing.T) {
	check(t, Type)
	check(t, Expr)
	check(t, Def)
	check(t, Library)
	check(t, Frag)
	check(t, Macro)
	check(t, Interface)
}
