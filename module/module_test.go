package module

import (
	"math"
	"slices"
	"strings"
	"testing"

	"skerry/api"
)

func TestFull(t *testing.T) {
	for _, x := range []struct{ name, lib, want string }{
		{"area", "geo", "area@geo"}, {"<shape>", "geo", "<shape>@geo"}, {"x", "0", "x@0"}, {"x", "1-a-", "x@1-a-"}, {"g_<shape>", "b2", "g_<shape>@b2"}, {"x-setter", "a", "x-setter@a"}, {"%|a", "a", "%|a@a"}, {"let", "a", "let@a"},
		{times(38, "a"), "b", times(38, "a") + "@b"}, {times(39, "a"), "b", ""}, {"a", times(38, "b"), "a@" + times(38, "b")}, {"a", times(39, "b"), ""}, {times(300, "a"), "b", ""},
		{"0", "0", ""}, {"0 0", "a", ""}, {"area", "0 0", ""}, {"", "geo", ""}, {"area", "", ""}, {"", "", ""}, {"x@a", "b", ""}, {"x", "a@b", ""}, {"x", "<a>", ""}, {"x", "-a", ""}, {"x", "a_b", ""}, {"x", "A", ""}, {"x", "geo ", ""}, {" x", "geo", ""}, {"x:", "geo", ""}, {"3", "geo", ""}, {"+", "geo", ""}, {"x+", "geo", ""}, {"//", "geo", ""}, {"/*", "*/", ""}, {"<<", "a", ""},
	} {
		if got, ok := Full(x.name, x.lib); got != x.want || ok != (x.want != "") {
			t.Errorf("Full(%q, %q) = %q, %v; expected %q", x.name, x.lib, got, ok, x.want)
		}
	}
}

func TestCheckFaces(t *testing.T) {
	right := []string{"", "class:<a>", "const:a", "0:f 6:g 3:h", "class:f=<f>@1-a 1:g=f@l const:let=x@x", "1:x=y@l 1:z=y@l", numbered(api.MaxDefs, "1:f#"), "class:<object>=<object>@a", "1:" + times(40, "a") + "=b@c"}
	for _, names := range right {
		for _, lib := range []string{"geo", "<geo>", "let", "a+b", times(40, "a")} {
			if e := CheckFaces([]api.Face{face("other", "1:f"), {Lib: lib, Names: entries("geo", names)}}); e != api.OK {
				t.Errorf("CheckFaces of %q with %s = %d", lib, names, e)
			}
		}
	}
	for _, lib := range []string{"", "a@b", "a b", "3", "+", "a:", times(41, "a"), "other"} {
		if e := CheckFaces([]api.Face{face("other", "1:f"), {Lib: lib, Names: entries("geo", "1:f")}}); e != api.ErrFace {
			t.Errorf("CheckFaces of %q = %d", lib, e)
		}
	}
	for _, names := range []string{"1:f 1:f", "class:f 1:g const:f", "1:f@a=f@a", "1:=f@a", "1:3=f@a", "1:+=f@a", "1:" + times(41, "a") + "=f@a", "1:f=f", "1:f=", "1:f=@a", "1:f=f@", "1:f=f@a@b", "1:f=3", "1:f=" + times(39, "f") + "@a", "class:<object>=<object>", "7:f", "-1:f", numbered(api.MaxDefs+1, "1:f#")} {
		if e := CheckFaces([]api.Face{face("geo", names)}); e != api.ErrFace {
			t.Errorf("CheckFaces of %s = %d", names, e)
		}
	}
	for _, x := range []struct {
		kind, arity int
		right       bool
	}{
		{api.DfClass, 0, true}, {api.DfClass, 1, false}, {api.DfClass, -1, false}, {api.DfConst, 0, true}, {api.DfConst, 1, false}, {api.DfGeneric, 0, true}, {api.DfGeneric, api.MaxParams, true}, {api.DfGeneric, api.MaxParams + 1, false}, {api.DfGeneric, math.MinInt, false},
		{0, 0, false}, {-1, 0, false}, {api.DfMethod, 0, false}, {api.DfDomain, 0, false}, {6, 0, false}, {math.MaxInt, 0, false},
	} {
		l := []api.Face{{Lib: "geo", Names: []api.Export{{Name: "x", Full: "x@geo", Kind: x.kind, Arity: x.arity}}}}
		if e := CheckFaces(l); (e == api.OK) != x.right || !x.right && e != api.ErrFace {
			t.Errorf("CheckFaces of the kind %d with the arity %d = %d", x.kind, x.arity, e)
		}
	}
	var many []api.Face
	for _, lib := range strings.Fields(numbered(api.MaxLibs+1, "l#")) {
		many = append(many, face(lib, "1:f"))
	}
	if e := CheckFaces(many); e != api.ErrFace {
		t.Errorf("CheckFaces of MaxLibs + 1 faces = %d", e)
	}
	if e := CheckFaces(many[1:]); e != api.OK || CheckFaces(nil) != api.OK || CheckFaces([]api.Face{}) != api.OK {
		t.Errorf("CheckFaces of MaxLibs faces = %d", e)
	}
}

const used = "class:<c>=<c>@l class:<d>=<d>@m 2:f=f@l 1:g=h@m const:k=k@l const:%t=t@l 1:x=x@l"

// Expr, with names that are bound and that are not.
func TestExpr(t *testing.T) {
	for _, x := range []struct{ text, want string }{
		{"1", "1"}, {"#t", "#t"}, {"k", "k@l"}, {"k@0", "k@l"}, {"<c>", "<c>@l"}, {"f(g, k)", "f@l(h@m, k@l)"}, {"k.g", "h@m(k@l)"}, {"f(f, f)", "f@l(f@l, f@l)"}, {"load-patch(3)", "load-patch(3)"},
		{"begin let x = x; x end", "begin let x = x@l; x end"}, {"begin let x = x; x@0 end", "begin let x = x@l; x@l end"}, {"begin let x@0 = x@0; x@0; x end", "begin let x@0 = x@l; x@0; x@l end"}, {"begin begin let x = 1; x end; x end", "begin begin let x = 1; x end; x@l end"}, {"begin let k@l = 1; k@l; g end", "begin let k@l = 1; k@l; h@m end"}, {"begin let x@7 = k; x@7; x@0; x end", "begin let x@7 = k@l; x@7; x@l; x@l end"}, {"begin let f = method () f end; f end", "begin let f = method() f@l end; f end"}, {"begin local method f () f; f@0 end; f end", "begin local method f() f; f@l end; f end"},
		{"begin let handler <c> = f; k end", "begin let handler <c>@l = f@l; k@l end"}, {"begin let <c> = 1; let handler <c> = <c>; <c> end", "begin let <c> = 1; let handler <c>@l = <c>; <c> end"},
		{"method (x, y :: <c>, <c> :: <d>) x; y; k; <c>; x@0 end", "method(x :: <object>, y :: <c>@l, <c> :: <d>@m) x; y; k@l; <c>; x@l end"}, {"begin method (x) x end; x end", "begin method(x :: <object>) x end; x@l end"}, {"method (f) method (x) f(x, k) end end", "method(f :: <object>) method(x :: <object>) f(x, k@l) end end"},
		{"block (x) x; k cleanup x end", "block(x) x; k@l cleanup x@l end"}, {"block () x cleanup k end", "block() x@l cleanup k@l end"}, {"next-method(x, k)", "next-method(x@l, k@l)"}, {"make(<c>, k: k, <c>: <d>)", "make(<c>@l, k: k@l, <c>: <d>@m)"}, {"if (x) k elseif (f) g end", "if(x@l) k@l else if(f@l) h@m end end"},
		{"instance?(<c>, <c>)", "instance?(<c>@l, <c>@l)"}, {"instance?(x, type-union(<c>, subclass(<d>), limited(1, 2), singleton(#t), type-union(<d>)))", "instance?(x@l, type-union(<c>@l, subclass(<d>@m), limited(1, 2), singleton(#t), type-union(<d>@m)))"},
		{"print(x)", "print(x@l)"}, {"- x", "0 - x@l"}, {"x + k", "x@l + k@l"}, {"x | k | %t", "x@l | k@l | t@l"}, {"begin let x = 1; x | k end", "begin let x = 1; x | k@l end"}, {"x & k", "if(x@l) k@l end"},
	} {
		x.want = show(expr(t, x.want))
		e := expr(t, x.text)
		list := append(entries("", used), entries("", "class:<object>=<object>")...)
		got, fault := Expr(list, e)
		if fault != api.OK || show(got) != x.want {
			t.Errorf("Expr(%s) = %s, %d; expected %s", x.text, show(got), fault, x.want)
		}
		if !apart(got, e, list) {
			t.Errorf("Expr(%s) shares memory", x.text)
		}
	}
}

// Expr and Type leave at the first name, in the order in which they stand, that does not denote what it has to.
func TestExprErrors(t *testing.T) {
	for _, x := range []struct {
		text string
		want api.Errno
	}{
		{"y", api.ErrUnbound}, {"y@0", api.ErrUnbound}, {"k@l", api.ErrUnbound}, {"k@00", api.ErrUnbound}, {"x@10", api.ErrUnbound}, {"begin let y = y; y end", api.ErrUnbound}, {"begin let y@0 = 1; y end", api.ErrUnbound}, {"begin let y = 1; y@0 end", api.ErrUnbound}, {"block (y) 1 cleanup y end", api.ErrUnbound}, {"begin method (y) y end; y end", api.ErrUnbound}, {"<object>", api.ErrUnbound}, {"begin let f = method () y end; f end", api.ErrUnbound},
		{"instance?(x, f)", api.ErrSort}, {"instance?(x, k)", api.ErrSort}, {"instance?(x, <y>)", api.ErrUnbound}, {"instance?(x, <c>@0)", api.ErrUnbound}, {"instance?(x, subclass(f))", api.ErrSort}, {"instance?(x, subclass(y))", api.ErrUnbound}, {"begin let <y> = x; instance?(x, <y>) end", api.ErrUnbound}, {"begin let f = x; instance?(x, f) end", api.ErrSort},
		{"instance?(y, f)", api.ErrSort}, {"instance?(x, type-union(f, <y>))", api.ErrSort}, {"instance?(x, type-union(<y>, f))", api.ErrUnbound}, {"instance?(x, type-union(type-union(f), <y>))", api.ErrSort}, {"y(instance?(x, f))", api.ErrUnbound}, {"f(y, instance?(x, f))", api.ErrUnbound}, {"f(instance?(x, f), y)", api.ErrSort},
		{"method (a :: f, b :: <y>) y end", api.ErrSort}, {"method (a :: <y>, b :: f) y end", api.ErrUnbound}, {"method (a :: <c>) y end", api.ErrUnbound}, {"begin let handler f = y; 1 end", api.ErrSort}, {"begin let handler <y> = 1; instance?(1, f) end", api.ErrUnbound}, {"begin let handler <c> = y; instance?(1, f) end", api.ErrUnbound}, {"begin let handler <c> = 1; instance?(1, f) end", api.ErrSort},
	} {
		if got, e := Expr(entries("", used), expr(t, x.text)); e != x.want || !same(got, api.Expr{}) {
			t.Errorf("Expr(%s) = %v, %d; expected %d", x.text, got, e, x.want)
		}
	}
	wrong := []api.Expr{{}, {Kind: api.ExVar}, {Kind: api.ExSlot, Name: "x", Args: []api.Expr{{Kind: api.ExNum}}}, {Kind: api.ExNum, Name: "x"}}
	for _, e := range wrong {
		if got, fault := Expr(entries("", used), e); fault != api.ErrForm || !same(got, api.Expr{}) {
			t.Errorf("Expr(%v) = %v, %d", e, got, fault)
		}
	}
	round := api.Expr{Kind: api.ExSeq, Args: make([]api.Expr, 2)}
	round.Args[0], round.Args[1] = round, round
	if _, e := Expr(nil, round); e != api.ErrLong {
		t.Errorf("Expr of a tree without an end = %d", e)
	}
	if _, e := Expr(nil, deep(api.MaxDeep+1)); e != api.ErrDeep {
		t.Errorf("Expr of a deep tree = %d", e)
	}
	if got, e := Expr(entries("", used), deep(api.MaxDeep)); e != api.OK || !same(got, deepOf(api.MaxDeep, "x@l")) {
		t.Errorf("Expr of a tree that is not too deep = %v, %d", got, e)
	}
}

// deep is n expressions within each other, of which the innermost one is the variable x.
func deep(n int) api.Expr {
	return deepOf(n, "x")
}

func deepOf(n int, name string) api.Expr {
	e := api.Expr{Kind: api.ExVar, Name: name}
	for range n - 1 {
		e = api.Expr{Kind: api.ExCall, Args: []api.Expr{e}}
	}
	return e
}

func TestType(t *testing.T) {
	for _, x := range []struct{ text, want string }{
		{"<c>", "<c>@l"}, {"subclass(<d>)", "subclass(<d>@m)"}, {"limited(-1, 2)", "limited(-1, 2)"}, {"singleton(#t)", "singleton(#t)"}, {"type-union()", "type-union()"}, {"type-union(<c>, type-union(<d>, 3x), <c>)", "type-union(<c>@l, type-union(<d>@m, limited(3, 3)), <c>@l)"},
	} {
		in := typeOf(t, strings.ReplaceAll(x.text, "3x", "singleton(3)"))
		list := entries("", used)
		got, e := Type(list, in)
		if want := showType(typeOf(t, x.want)); e != api.OK || showType(got) != want {
			t.Errorf("Type(%s) = %s, %d; expected %s", x.text, showType(got), e, want)
		}
		if !apart(got, in, list) {
			t.Errorf("Type(%s) shares memory", x.text)
		}
	}
	for _, x := range []struct {
		text string
		want api.Errno
	}{
		{"<y>", api.ErrUnbound}, {"<object>", api.ErrUnbound}, {"<c>@l", api.ErrUnbound}, {"<c>@0", api.ErrUnbound}, {"f", api.ErrSort}, {"k", api.ErrSort}, {"subclass(f)", api.ErrSort}, {"subclass(<y>)", api.ErrUnbound}, {"type-union(<c>, f, <y>)", api.ErrSort}, {"type-union(type-union(<y>), f)", api.ErrUnbound},
	} {
		if got, e := Type(entries("", used), typeOf(t, x.text)); e != x.want || !same(got, api.Type{}) {
			t.Errorf("Type(%s) = %v, %d; expected %d", x.text, got, e, x.want)
		}
	}
	round := api.Type{Kind: api.TyUnion, Args: make([]api.Type, 1)}
	round.Args[0] = round
	for _, x := range []struct {
		t    api.Type
		want api.Errno
	}{
		{api.Type{}, api.ErrForm}, {api.Type{Kind: api.TyClass, Name: "let"}, api.ErrForm}, {api.Type{Kind: api.TyInt, Lo: 1}, api.ErrForm}, {api.Type{Kind: 6}, api.ErrForm}, {round, api.ErrLong}, {api.Type{Kind: api.TyUnion, Args: []api.Type{{Kind: api.TyClass, Name: "<y>"}, {}}}, api.ErrForm},
	} {
		if got, e := Type(entries("", used), x.t); e != x.want || !same(got, api.Type{}) {
			t.Errorf("Type = %v, %d; expected %d", got, e, x.want)
		}
	}
}

// A table may be anything, but not too long. The first entry with a name counts.
func TestTables(t *testing.T) {
	list := entries("", "class:x=x@1 1:x=x@2 1:y=y@1 class:y=y@2")
	list = append(list, api.Export{Name: "a@b", Full: "let"}, api.Export{Name: "z", Kind: -1}, api.Export{Full: "c"})
	for _, x := range []struct{ text, want string }{{"x", "x@1"}, {"y", "y@1"}, {"instance?(y, x)", "instance?(y@1, x@1)"}} {
		if got, e := Expr(list, expr(t, x.text)); e != api.OK || show(got) != show(expr(t, x.want)) {
			t.Errorf("Expr(%s) = %s, %d", x.text, show(got), e)
		}
	}
	for _, x := range []struct{ name, want string }{{"a@b", "let"}, {"z", ""}} {
		if got, e := Expr(list, api.Expr{Kind: api.ExVar, Name: x.name}); e != api.OK || got.Name != x.want {
			t.Errorf("Expr(%s) = %v, %d", x.name, got, e)
		}
	}
	if _, e := Type(list, api.Type{Kind: api.TyClass, Name: "y"}); e != api.ErrSort {
		t.Errorf("Type of what is a generic function first = %d", e)
	}
	if got, e := Type(list, api.Type{Kind: api.TyClass, Name: "x"}); e != api.OK || got.Name != "x@1" {
		t.Errorf("Type of what is a class first = %v, %d", got, e)
	}
	for n, want := range map[int]api.Errno{0: api.ErrUnbound, 1999: api.ErrUnbound, 2000: api.ErrUnbound, 2001: api.ErrLong, 5000: api.ErrLong} {
		long := slices.Repeat(entries("l", "1:f"), n)
		if _, e := Expr(long, expr(t, "x")); e != want {
			t.Errorf("Expr with %d entries = %d; expected %d", n, e, want)
		}
		if _, e := Type(long, typeOf(t, "x")); e != want {
			t.Errorf("Type with %d entries = %d; expected %d", n, e, want)
		}
		if _, e := Expr(long, api.Expr{}); e != api.ErrForm {
			t.Errorf("Expr of no expression with %d entries = %d", n, e)
		}
		if _, e := Type(long, api.Type{}); e != api.ErrForm {
			t.Errorf("Type of no type with %d entries = %d", n, e)
		}
	}
}

func TestGlobals(t *testing.T) {
	for _, x := range []struct{ text, want string }{
		{"1", ""}, {"x", "x"}, {"x@0", "x"}, {"x@1", "x@1"}, {"f(b, a@0, b@0, a)", "f b a"}, {"begin let x = y; f(x) end", "y f"}, {"begin let x = y; x@0; x end", "y x"}, {"begin let x@0 = y; x@0; z@0; x end", "y z x"}, {"begin begin let x@0 = y; x@0 end; x@0 end", "y x"}, {"method (x :: <a>) x; y end", "y"}, {"a | b@0", "a b"}, {"x@10", "x@10"}, {"p.x := v", "x-setter v p"},
	} {
		if got := Globals(expr(t, x.text)); !slices.Equal(got, strings.Fields(x.want)) {
			t.Errorf("Globals(%s) = %q; expected %q", x.text, got, x.want)
		}
	}
	if Globals(api.Expr{Kind: api.ExCall, Args: []api.Expr{{Kind: api.ExVar, Name: "x"}, {Kind: api.ExVar}}}) != nil || Globals(api.Expr{}) != nil || Globals(deep(api.MaxDeep+1)) != nil {
		t.Error("Globals takes an expression that is not well-formed")
	}
}
