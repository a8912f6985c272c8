package syntax

import (
	"reflect"
	"slices"
	"strings"
	"testing"

	"skerry/api"
)

// P4.4

func TestFree(t *testing.T) {
	for _, x := range []struct{ text, want string }{
		{"1", ""}, {"x", "x"}, {"f ( b , a , b )", "f b a"}, {"a . x", "x a"}, {"p . x := v", "x-setter v p"}, {"begin let x = y ; f ( x ) end", "y f"}, {"begin let x = x ; x end", "x"}, {"begin x ; let x = y ; x end", "x y"}, {"begin let x = y ; z end", "y z"},
		{"begin let x = a ; let x = x ; x end", "a"}, {"begin let x = begin let x = a ; x end ; x end", "a"}, {"begin begin let x = a ; x end ; x end", "a x"},
		{"begin local method f ( x ) f ( x , y ) end ; f ( x ) end", "y x"}, {"begin let f = method ( x ) f ( x ) end ; f end", "f"}, {"begin local method f ( f ) f end ; f end", ""}, {"begin local method f ( ) end end", ""}, {"begin let f = begin local method f ( ) f end ; f end ; f end", ""}, {"begin let f = print ( method ( ) f end ) ; f end", "f"},
		{"method ( x , y :: <a> ) x ; y ; z end", "z"}, {"begin method ( x ) x end ; x end", "x"}, {"method ( x ) method ( y ) x ; y ; z end end", "z"}, {"method ( x ) method ( x ) x end ; x end", ""},
		{"block ( x ) x ; y cleanup x ; z end", "y x z"}, {"block ( ) x cleanup y end", "x y"}, {"begin let handler <e> = h ; b end", "h b"}, {"next-method ( a , b )", "a b"}, {"make ( c , k: a , l: b )", "c a b"}, {"instance? ( a , <b> )", "a"}, {"if ( a ) b else c end", "a b c"}, {"load-patch ( 3 )", ""},
		{"a | b | c", "a b c"}, {"begin let a = b ; a | c end", "b c"}, {"- a", "a"}, {"begin let x'1 = x ; x'1 ; x'2 ; x end", "x x@0"}, {"begin let x@l = 1 ; x ; x@l end", "x"},
	} {
		l := toks(x.text)
		e, _, _ := ParseExpr(l)
		if got := Free(e); !slices.Equal(got, strings.Fields(x.want)) {
			t.Errorf("Free(%s) = %q; expected %q", x.text, got, x.want)
		}
	}
	if Free(api.Expr{Kind: api.ExCall, Args: []api.Expr{{Kind: api.ExVar, Name: "x"}, {Kind: api.ExVar}}}) != nil {
		t.Error("Free takes an expression that is not well-formed")
	}
}

func TestAlpha(t *testing.T) {
	alphas := [][]string{ // those of a list are Alpha, those of two are not
		{"x"}, {"y"}, {"1"}, {"2"}, {"-1"}, {"#t"}, {"#f"}, {"load-patch ( 1 )"}, {"load-patch ( 2 )"}, {"f ( x )", "( f ) ( ( x ) )"}, {"f ( x , x )"}, {"f ( )"}, {"x ( f )"},
		{"begin let x = a ; x end", "begin let y = a ; y end", "begin let a = a ; a end"}, {"begin let x = a ; y end", "begin let z = a ; y end"}, {"begin let y = a ; x end"}, {"begin let x = x ; x end", "begin let y = x ; y end"}, {"begin let x = y ; x end", "begin let y = y ; y end"}, {"begin let x = a ; a end"},
		{"begin let x = a ; let y = b ; x ; y end", "begin let y = a ; let x = b ; y ; x end"}, {"begin let x = a ; let y = b ; y ; x end"}, {"begin let x = a ; let x = b ; x ; x end", "begin let x = a ; let y = b ; y ; y end"}, {"begin begin let x = a ; x end ; x end", "begin begin let y = a ; y end ; x end"}, {"begin begin let x = a ; x end ; y end"},
		{"method ( x ) x end", "method ( y ) y end", "method ( y :: <object> ) y end"}, {"method ( x ) y end", "method ( z ) y end"}, {"method ( y ) x end"}, {"method ( x , y ) x ; y end", "method ( y , x ) y ; x end", "method ( a , b ) a ; b end"}, {"method ( x , y ) y ; x end"}, {"method ( x :: <a> ) x end", "method ( y :: <a> ) y end"}, {"method ( x :: <b> ) x end"}, {"method ( ) x end"}, {"method ( x , y ) x end"}, {"method ( x :: limited ( 1 , 2 ) ) x end"}, {"method ( x :: limited ( 1 , 3 ) ) x end"}, {"method ( x :: limited ( 0 , 2 ) ) x end"}, {"method ( x :: subclass ( <a> ) ) x end"}, {"method ( x :: type-union ( <a> ) ) x end"}, {"method ( x :: type-union ( <b> ) ) x end"}, {"method ( x :: type-union ( <a> , <a> ) ) x end"},
		{"begin local method f ( x ) f end ; f end", "begin local method g ( y ) g end ; g end"}, {"begin let f = method ( x ) f end ; f end", "begin let g = method ( y ) f end ; g end"}, {"begin local method f ( f ) f end ; f end", "begin local method f ( g ) g end ; f end"}, {"begin local method f ( ) 1 end ; 2 end", "begin local method g ( ) 1 end ; 2 end"}, {"begin let f = method ( ) 1 end ; 2 end"},
		{"block ( x ) x cleanup x end", "block ( y ) y cleanup x end"}, {"block ( x ) x cleanup y end"}, {"block ( ) x cleanup x end"}, {"block ( y ) x cleanup x end", "block ( z ) x cleanup x end"}, {"block ( x ) x end"}, {"block ( ) 1 end"}, {"block ( x ) 1 end", "block ( y ) 1 end"}, {"block ( x ) 1 cleanup 1 end"},
		{"begin let handler <a> = h ; b end"}, {"begin let handler <b> = h ; b end"}, {"begin let handler <a> = b ; h end"}, {"make ( c , k: a , l: b )"}, {"make ( c , l: a , k: b )"}, {"make ( c , k: a , m: b )"}, {"make ( c )"}, {"next-method ( )"}, {"next-method ( a )"}, {"instance? ( a , <b> )"}, {"instance? ( a , <c> )"}, {"instance? ( x , <b> )"},
		{"a + b"}, {"b + a"}, {"a - b"}, {"a * b"}, {"print ( a )"}, {"signal ( a )"}, {"a & b", "if ( a ) b end"}, {"if ( a ) b else c end"}, {"a | b", "begin let t = a ; if ( t ) t else b end end"}, {"begin let b = a ; if ( b ) b else b end end"}, {"begin a ; b end"}, {"begin a ; b ; b end"}, {"begin a ; begin b ; b end end"},
		{"begin let x'1 = x'1 ; x'1 end", "begin let y = x@0 ; y end"}, {"begin let x@l = a ; x@l ; x end", "begin let y = a ; y ; x end"},
	}
	for i, l := range alphas {
		for _, s := range l {
			for j, m := range alphas {
				for _, u := range m {
					if got := Alpha(must(t, s), must(t, u)); got != (i == j) {
						t.Errorf("Alpha(%s, %s) = %v", s, u, got)
					}
				}
			}
		}
	}
	right, bound := must(t, "begin let x = 1 ; x end"), must(t, "begin let y = 1 ; y end")
	bound.Name, bound.Args[1].Name = "let", "let"
	if Alpha(right, bound) || Alpha(bound, right) {
		t.Error("Alpha takes an expression that binds a reserved word")
	}
	wrong := api.Expr{Kind: api.ExVar}
	if Alpha(wrong, wrong) || Alpha(wrong, num(1)) || Alpha(num(1), wrong) || Alpha(wide(api.MaxNodes+1), wide(api.MaxNodes+1)) || !Alpha(wide(api.MaxNodes), wide(api.MaxNodes)) {
		t.Error("Alpha takes expressions that are not well-formed, or does not take one that is")
	}
}

// P4.5

func TestAccessors(t *testing.T) {
	union := api.Type{Kind: api.TyUnion, Args: []api.Type{class("<b>"), {Kind: api.TyUnion, Args: []api.Type{class("<a>")}}}}
	c := api.ClassDef{Name: "<c>", Supers: []string{"<a>"}, Sealed: true, Slots: []api.Slot{
		{Name: "x", Type: class("<b>"), Alloc: api.SlInst, Key: "k", Init: variables(1)}, {Name: "v", Type: class("<b>"), Alloc: api.SlVirt}, {Name: "y@l", Type: union, Alloc: api.SlClass}, {Name: "z", Type: class("<object>"), Alloc: api.SlEach}, {Name: times(34, "a"), Alloc: 9},
	}}
	var want []string
	for _, x := range [][3]string{{"x", "x-setter", "<b>"}, {"y@l", "y-setter@l", "union[<b> union[<a>]]"}, {"z", "z-setter", "<object>"}} {
		want = append(want, "method "+x[0]+" [object:<c>] "+x[2]+" (slot "+x[0]+" object)", "method "+x[1]+" [value:"+x[2]+" object:<c>] "+x[2]+" (set "+x[0]+" object value)")
	}
	l := Accessors(c)
	if len(l) != 8 || !slices.Equal(mapped(l[:6], showDefinition), want) {
		t.Fatalf("Accessors = %q; expected %q", mapped(l, showDefinition), want)
	}
	if long := times(34, "a"); l[6].Method.Generic != long || l[7].Method.Generic != "" || l[7].Method.Body.Name != long || !same(l[7].Method.Result, api.Type{}) {
		t.Errorf("Accessors of a slot with a long name = %+v", l[6:])
	}
	if !apart(l, union) {
		t.Error("Accessors has lists with the same memory")
	}
	for _, c := range []api.ClassDef{{}, {Name: "<c>", Slots: []api.Slot{}}, {Slots: []api.Slot{{Name: "v", Alloc: api.SlVirt}}}} {
		if l := Accessors(c); len(l) != 0 {
			t.Errorf("Accessors(%+v) = %+v", c, l)
		}
	}
	deep := api.ClassDef{Name: "c", Slots: []api.Slot{{Name: "x", Type: deepType(5000), Alloc: 1}}}
	if l := Accessors(deep); len(l) != 2 || !reflect.DeepEqual(l[0].Method.Result, deep.Slots[0].Type) {
		t.Error("Accessors does not take a type that is not well-formed")
	}
}

func TestSetter(t *testing.T) {
	for _, x := range []struct{ name, want string }{
		{"x", "x-setter"}, {"area@shapes", "area-setter@shapes"}, {"<a>", "<a>-setter"}, {"x-setter", "x-setter-setter"}, {"x@0", "x-setter@0"}, {"x@3", "x-setter@3"}, {"let", "let-setter"}, {"let@l", "let-setter@l"}, {"x?", "x?-setter"},
		{"", ""}, {" ", ""}, {"1", ""}, {"-", ""}, {"x:", ""}, {"x ", ""}, {"x@", ""}, {"@l", ""}, {"x@l@m", ""}, {"%|", ""}, {"X", ""}, {"a b", ""}, {"x\x00", ""},
		{times(33, "a"), times(33, "a") + "-setter"}, {times(34, "a"), ""}, {times(31, "a") + "@l", times(31, "a") + "-setter@l"}, {times(32, "a") + "@l", ""}, {times(41, "a"), ""},
	} {
		if got := Setter(x.name); got != x.want {
			t.Errorf("Setter(%q) = %q; expected %q", x.name, got, x.want)
		}
	}
}
