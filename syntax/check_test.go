package syntax

import (
	"math"
	"slices"
	"strings"
	"testing"

	"skerry/api"
)

// must parses a text that has to be an expression.
func must(t *testing.T, text string) api.Expr {
	t.Helper()
	e, at, err := ParseExpr(toks(text))
	if err != api.OK {
		t.Fatalf("ParseExpr(%s) = %d at %d", text, err, at)
	}
	return e
}

func mustSource(t *testing.T, text string) api.Source {
	t.Helper()
	s, at, e := ParseTokens(toks(text))
	if e != api.OK {
		t.Fatalf("ParseTokens(%s) = %d at %d", text, e, at)
	}
	return s
}

func num(n int) api.Expr { return api.Expr{Kind: api.ExNum, Num: n} }

func variables(n int) []api.Expr {
	return slices.Repeat([]api.Expr{{Kind: api.ExVar, Name: "x"}}, n)
}

func class(name string) api.Type { return api.Type{Kind: api.TyClass, Name: name} }

func params(names ...string) []api.Param {
	return mapped(names, func(s string) api.Param { return api.Param{Name: s, Type: class("<a>")} })
}

func mapped[S, T any](l []S, f func(S) T) []T {
	var m []T
	for _, x := range l {
		m = append(m, f(x))
	}
	return m
}

// checkAll fails unless the check of an expression is as expected, alone, in other expressions, and in a source; and all functions that take expressions agree.
func checkAll(t *testing.T, e api.Expr, want api.Errno) {
	t.Helper()
	if got := CheckExpr(e); got != want {
		t.Errorf("CheckExpr(%+v) = %d; expected %d", e, got, want)
	}
	text, got := PrintExpr(e)
	if got != want || got != api.OK && text != "" {
		t.Errorf("PrintExpr(%+v) = %q, %d; expected %d", e, text, got, want)
	}
	if want != api.OK && (Size(e) != 0 || Free(e) != nil || Alpha(e, e)) {
		t.Errorf("Size, Free or Alpha take %+v", e)
	}
	if want == api.OK && (Size(e) == 0 || !Alpha(e, e)) {
		t.Errorf("Size or Alpha do not take %+v", e)
	}
	for _, around := range []api.Expr{
		{Kind: api.ExCall, Args: []api.Expr{num(1), e}}, {Kind: api.ExLet, Name: "x", Args: []api.Expr{num(1), e}}, {Kind: api.ExFn, Args: []api.Expr{e}}, {Kind: api.ExBlock, Args: []api.Expr{num(1), e}},
		{Kind: api.ExLet, Name: "%|", Args: []api.Expr{e, {Kind: api.ExIf, Args: []api.Expr{{Kind: api.ExVar, Name: "%|"}, {Kind: api.ExVar, Name: "%|"}, num(1)}}}},
		{Kind: api.ExLet, Name: "%|", Args: []api.Expr{num(1), {Kind: api.ExIf, Args: []api.Expr{{Kind: api.ExVar, Name: "%|"}, {Kind: api.ExVar, Name: "%|"}, e}}}},
	} {
		if got := CheckExpr(around); got != want {
			t.Errorf("CheckExpr(%+v) = %d; expected %d", around, got, want)
		}
	}
	for _, d := range []api.Def{
		{Kind: api.DfConst, Name: "c", Body: e}, {Kind: api.DfMethod, Method: api.MethodDef{Generic: "f", Result: class("<a>"), Body: e}},
		{Kind: api.DfClass, Class: api.ClassDef{Name: "c", Supers: []string{"b"}, Slots: []api.Slot{{Name: "x", Type: class("<a>"), Alloc: api.SlInst, Init: []api.Expr{e}}}}},
	} {
		if got := Check(api.Source{Name: "a", Defs: []api.Def{d}}); got != want {
			t.Errorf("Check of a definition with %+v = %d; expected %d", e, got, want)
		}
	}
	if got := Check(api.Source{Name: "a", Main: []api.Expr{e}}); got != want {
		t.Errorf("Check of a source with %+v = %d; expected %d", e, got, want)
	}
}

// A well-formed expression of each kind, and the fields that the kind uses.
var kinds = []struct{ text, uses string }{
	{"-3", "Num"}, {"#t", "Num"}, {"x@l", "Name"}, {"f ( a )", "Args"}, {"if ( a ) b else c end", "Args"}, {"begin let x = a ; b end", "Name Args"}, {"begin a ; b end", "Args"}, {"method ( x :: <a> ) x end", "Params Args"},
	{"block ( x ) a end", "Name Args"}, {"begin let handler <a> = h ; b end", "Type Args"}, {"next-method ( )", "Args"}, {"make ( a , k: b )", "Keys Args"}, {"a + b", "Name Args"}, {"instance? ( a , <b> )", "Type Args"}, {"load-patch ( 3 )", "Num"},
}

func TestFieldsOfExpr(t *testing.T) {
	for _, k := range kinds {
		e := must(t, k.text)
		checkAll(t, e, api.OK)
		for _, field := range []struct {
			name string
			set  func(e *api.Expr)
		}{
			{"Name", func(e *api.Expr) { e.Name = "z" }}, {"Num", func(e *api.Expr) { e.Num = 1 }}, {"Num", func(e *api.Expr) { e.Num = -1 }}, {"Type", func(e *api.Expr) { e.Type = class("<a>") }}, {"Type", func(e *api.Expr) { e.Type.Name = "<a>" }}, {"Type", func(e *api.Expr) { e.Type.Hi = -1 }}, {"Type", func(e *api.Expr) { e.Type.Lo = 1 }}, {"Type", func(e *api.Expr) { e.Type.Kind = api.TyUnion }}, {"Type", func(e *api.Expr) { e.Type.Args = make([]api.Type, 1) }},
			{"Params", func(e *api.Expr) { e.Params = params("z") }}, {"Keys", func(e *api.Expr) { e.Keys = []string{"z"} }}, {"Args", func(e *api.Expr) { e.Args = []api.Expr{num(1)} }},
		} {
			if strings.Contains(k.uses, field.name) {
				continue
			}
			x := e
			field.set(&x)
			checkAll(t, x, api.ErrForm)
		}
		empty := e // empty lists are like nil
		for _, l := range []string{"Params", "Keys", "Args"} {
			switch {
			case strings.Contains(k.uses, l):
			case l == "Params":
				empty.Params = []api.Param{}
			case l == "Keys":
				empty.Keys = []string{}
			default:
				empty.Args = []api.Expr{}
			}
		}
		empty.Type.Args = slices.Clip(append([]api.Type{}, empty.Type.Args...))
		checkAll(t, empty, api.OK)
	}
	for _, kind := range []int{0, api.ExSlot, api.ExSet, api.ExDirect, api.ExGuard, api.ExEnter, api.ExCheck, 22, -1, math.MaxInt, math.MinInt} {
		checkAll(t, api.Expr{Kind: kind}, api.ErrForm)
		checkAll(t, api.Expr{Kind: kind, Name: "x", Args: variables(2)}, api.ErrForm)
	}
}

func TestNumberOfArgs(t *testing.T) {
	for _, k := range kinds {
		e := must(t, k.text)
		least, most := 0, 0
		switch e.Kind {
		case api.ExCall:
			least, most = 1, 17
		case api.ExIf:
			least, most = 3, 3
		case api.ExLet, api.ExPrim, api.ExHandle, api.ExMake:
			least, most = 2, 2
		case api.ExSeq:
			least, most = 2, 40
		case api.ExFn, api.ExIs:
			least, most = 1, 1
		case api.ExBlock:
			least, most = 1, 2
		case api.ExNext:
			least, most = 0, 6
		}
		for n := range 41 {
			e.Args = variables(n)
			want := api.OK
			if n < least || n > most {
				want = api.ErrForm
			}
			checkAll(t, e, want)
		}
	}
	for name, n := range map[string]int{"+": 2, "-": 2, "*": 2, "quotient": 2, "<": 2, "<=": 2, ">": 2, ">=": 2, "=": 2, "==": 2, "not": 1, "print": 1, "signal": 1, "class-of": 1, "": 9, "/": 9, "~": 9, "&": 9, "object-class": 9, "x": 9, "x@l": 9} {
		for i := range 4 {
			want := api.ErrForm
			if i == n {
				want = api.OK
			}
			checkAll(t, api.Expr{Kind: api.ExPrim, Name: name, Args: variables(i)}, want)
		}
	}
	for n := range api.MaxArgs + 3 {
		e := api.Expr{Kind: api.ExMake, Args: variables(n + 1), Keys: strings.Fields(numbered(n, "k#", " "))}
		want := api.OK
		if n > api.MaxArgs {
			want = api.ErrForm
		}
		checkAll(t, e, want)
		e.Args = variables(n)
		checkAll(t, e, api.ErrForm)
		e.Args = variables(n + 2)
		checkAll(t, e, api.ErrForm)
	}
}

// Names of each sort, and what they may be.
var strange = []struct {
	name                        string
	isName, plain, lib, keyword bool
}{
	{"x", true, true, true, true}, {"a-1", true, true, true, true}, {"<a>", true, true, false, true}, {"x@l", true, false, false, false}, {"x@0", true, false, false, false}, {"x!", true, true, false, true}, {"a_", true, true, false, true}, {"a+b", true, true, false, true}, {"<1a", true, true, false, true}, {"a2", true, true, true, true}, {"z-9a", true, true, true, true},
	{"let", false, false, false, true}, {"prefix", false, false, false, true}, {"each-subclass", false, false, false, true}, {"let@l", true, false, false, false}, {"end", false, false, false, true},
	{times(39, "a"), true, true, true, true}, {times(40, "a"), true, true, true, false}, {times(41, "a"), false, false, false, false}, {times(38, "a") + "@l", true, false, false, false}, {times(39, "a") + "@l", false, false, false, false},
	{"", false, false, false, false}, {" ", false, false, false, false}, {"a b", false, false, false, false}, {"1", false, false, false, false}, {"-1", false, false, false, false}, {"#t", false, false, false, false}, {"+", false, false, false, false}, {"(", false, false, false, false}, {"k:", false, false, false, false}, {"?x", false, false, false, false}, {"a-", false, false, false, false}, {"1a", false, false, false, false}, {"A", false, false, false, false}, {"ä", false, false, false, false}, {"x@", false, false, false, false}, {"%|", false, false, false, false}, {"%|@0", false, false, false, false}, {"x\n", false, false, false, false}, {"@l", false, false, false, false},
}

func formIf(ok bool) api.Errno {
	if ok {
		return api.OK
	}
	return api.ErrForm
}

func TestNamesInExpr(t *testing.T) {
	one := variables(1)
	for _, x := range strange {
		checkAll(t, api.Expr{Kind: api.ExVar, Name: x.name}, formIf(x.isName))
		checkAll(t, api.Expr{Kind: api.ExLet, Name: x.name, Args: variables(2)}, formIf(x.isName))
		checkAll(t, api.Expr{Kind: api.ExLet, Name: x.name, Args: []api.Expr{{Kind: api.ExFn, Name: x.name, Args: one}, num(1)}}, formIf(x.isName))
		checkAll(t, api.Expr{Kind: api.ExFn, Params: []api.Param{{Name: x.name, Type: class("<a>")}}, Args: one}, formIf(x.isName))
		checkAll(t, api.Expr{Kind: api.ExBlock, Name: x.name, Args: one}, formIf(x.isName || x.name == ""))
		checkAll(t, api.Expr{Kind: api.ExMake, Keys: []string{x.name}, Args: variables(2)}, formIf(x.keyword))
		for _, kind := range []int{api.TyClass, api.TySub} {
			typ := api.Type{Kind: kind, Name: x.name}
			if got := CheckType(typ); got != formIf(x.isName) {
				t.Errorf("CheckType(%+v) = %d", typ, got)
			}
			checkAll(t, api.Expr{Kind: api.ExIs, Type: typ, Args: one}, formIf(x.isName))
			checkAll(t, api.Expr{Kind: api.ExHandle, Type: api.Type{Kind: api.TyUnion, Args: []api.Type{typ}}, Args: variables(2)}, formIf(x.isName))
			checkAll(t, api.Expr{Kind: api.ExFn, Params: []api.Param{{Name: "x", Type: typ}}, Args: one}, formIf(x.isName))
		}
	}
}

func TestForms(t *testing.T) {
	x := variables(1)[0]
	one := variables(1)
	fn := func(name string) api.Expr { return api.Expr{Kind: api.ExFn, Name: name, Args: one} }
	let := func(name string, args ...api.Expr) api.Expr {
		return api.Expr{Kind: api.ExLet, Name: name, Args: args}
	}
	either := api.Expr{Kind: api.ExVar, Name: "%|"}
	choice := func(a, b, c api.Expr) api.Expr { return api.Expr{Kind: api.ExIf, Args: []api.Expr{a, b, c}} }
	for _, y := range []struct {
		e    api.Expr
		want api.Errno
	}{
		{num(math.MinInt), api.OK}, {num(math.MaxInt), api.OK}, {api.Expr{Kind: api.ExBool}, api.OK}, {api.Expr{Kind: api.ExBool, Num: 2}, api.ErrForm}, {api.Expr{Kind: api.ExBool, Num: -1}, api.ErrForm}, {api.Expr{Kind: api.ExLoad}, api.OK}, {api.Expr{Kind: api.ExLoad, Num: math.MaxInt}, api.OK}, {api.Expr{Kind: api.ExLoad, Num: -1}, api.ErrForm},
		// names of functions
		{fn("f"), api.ErrForm}, {let("f", fn("f"), x), api.OK}, {let("f", fn(""), x), api.OK}, {let("f", fn("g"), x), api.ErrForm}, {let("f", x, fn("f")), api.ErrForm}, {let("f", api.Expr{Kind: api.ExFn, Args: []api.Expr{fn("f")}}, x), api.ErrForm}, {let("f", fn("f"), let("f", x, fn("f"))), api.ErrForm}, {let("f", api.Expr{Kind: api.ExSeq, Args: []api.Expr{fn("f"), x}}, x), api.ErrForm},
		// parameters
		{api.Expr{Kind: api.ExFn, Params: params("a", "b", "c", "d", "e", "f"), Args: one}, api.OK}, {api.Expr{Kind: api.ExFn, Params: params("a", "b", "c", "d", "e", "f", "g"), Args: one}, api.ErrForm}, {api.Expr{Kind: api.ExFn, Params: params("a", "b", "a"), Args: one}, api.ErrForm}, {api.Expr{Kind: api.ExFn, Params: params("a", "a@1"), Args: one}, api.OK}, {api.Expr{Kind: api.ExFn, Params: []api.Param{{Name: "a"}}, Args: one}, api.ErrForm},
		{api.Expr{Kind: api.ExHandle, Args: variables(2)}, api.ErrForm}, {api.Expr{Kind: api.ExIs, Args: one}, api.ErrForm}, {api.Expr{Kind: api.ExBlock, Args: one}, api.OK},
		{api.Expr{Kind: api.ExMake, Keys: []string{"k", "l"}, Args: variables(3)}, api.OK}, {api.Expr{Kind: api.ExMake, Keys: []string{"k", "k"}, Args: variables(3)}, api.ErrForm},
		// the variable of |
		{let("%|", x, choice(either, either, x)), api.OK}, {either, api.ErrForm}, {let("%|", x, x), api.ErrForm}, {let("%|", either, choice(either, either, x)), api.ErrForm}, {let("%|", x, choice(either, either, either)), api.ErrForm}, {let("%|", x, choice(either, x, x)), api.ErrForm}, {let("%|", x, choice(x, either, x)), api.ErrForm}, {let("%|", x, either), api.ErrForm}, {let("y", x, choice(either, either, x)), api.ErrForm}, {let("%|", x, x), api.ErrForm},
		{let("%|", fn("%|"), choice(either, either, x)), api.ErrForm}, {let("%|", fn(""), choice(either, either, x)), api.OK}, {api.Expr{Kind: api.ExFn, Params: params("%|"), Args: one}, api.ErrForm}, {api.Expr{Kind: api.ExBlock, Name: "%|", Args: one}, api.ErrForm}, {let("%|", let("%|", x, choice(either, either, x)), choice(either, either, let("%|", x, choice(either, either, x)))), api.OK},
		{api.Expr{Kind: api.ExLet, Name: "%|", Num: 1, Args: []api.Expr{x, choice(either, either, x)}}, api.ErrForm}, {let("%|", x, api.Expr{Kind: api.ExIf, Name: "%|", Args: []api.Expr{either, either, x}}), api.ErrForm}, {let("%|", x, choice(api.Expr{Kind: api.ExVar, Name: "%|", Num: 1}, either, x)), api.ErrForm}, {let("%|", x, choice(either, api.Expr{Kind: api.ExLet, Name: "%|"}, x)), api.ErrForm}, {let("%|", x), api.ErrForm}, {let("%|", x, api.Expr{Kind: api.ExIf, Args: []api.Expr{either, either}}), api.ErrForm}, {let("%|", x, api.Expr{Kind: api.ExSeq, Args: []api.Expr{either, either, x}}), api.ErrForm},
	} {
		checkAll(t, y.e, y.want)
	}
}

func TestCheckType(t *testing.T) {
	for _, x := range []struct {
		t    api.Type
		want api.Errno
	}{
		{api.Type{}, api.ErrForm}, {class("<a>"), api.OK}, {api.Type{Kind: api.TyClass, Name: "<a>", Args: []api.Type{}}, api.OK}, {api.Type{Kind: api.TyClass, Name: "<a>", Lo: 1}, api.ErrForm}, {api.Type{Kind: api.TyClass, Name: "<a>", Hi: 1}, api.ErrForm}, {api.Type{Kind: api.TyClass, Name: "<a>", Args: []api.Type{class("<b>")}}, api.ErrForm}, {api.Type{Kind: api.TyClass}, api.ErrForm},
		{api.Type{Kind: api.TyInt}, api.OK}, {api.Type{Kind: api.TyInt, Lo: -5, Hi: 5}, api.OK}, {api.Type{Kind: api.TyInt, Lo: math.MinInt, Hi: math.MaxInt}, api.OK}, {api.Type{Kind: api.TyInt, Lo: 1}, api.ErrForm}, {api.Type{Kind: api.TyInt, Lo: math.MaxInt, Hi: math.MinInt}, api.ErrForm}, {api.Type{Kind: api.TyInt, Name: "<a>"}, api.ErrForm}, {api.Type{Kind: api.TyInt, Args: []api.Type{class("<b>")}}, api.ErrForm},
		{api.Type{Kind: api.TyBool}, api.OK}, {api.Type{Kind: api.TyBool, Lo: 1}, api.OK}, {api.Type{Kind: api.TyBool, Lo: 2, Hi: 0}, api.ErrForm}, {api.Type{Kind: api.TyBool, Lo: -1}, api.ErrForm}, {api.Type{Kind: api.TyBool, Lo: 1, Hi: 1}, api.ErrForm}, {api.Type{Kind: api.TyBool, Name: "<a>"}, api.ErrForm}, {api.Type{Kind: api.TyBool, Args: []api.Type{class("<b>")}}, api.ErrForm},
		{api.Type{Kind: api.TySub, Name: "<a>"}, api.OK}, {api.Type{Kind: api.TySub, Name: "<a>", Lo: 1}, api.ErrForm}, {api.Type{Kind: api.TySub, Name: "<a>", Hi: -1}, api.ErrForm}, {api.Type{Kind: api.TySub, Name: "<a>", Args: []api.Type{class("<b>")}}, api.ErrForm}, {api.Type{Kind: api.TySub}, api.ErrForm},
		{api.Type{Kind: api.TyUnion}, api.OK}, {api.Type{Kind: api.TyUnion, Args: []api.Type{{Kind: api.TyUnion}, class("<a>"), class("<a>")}}, api.OK}, {api.Type{Kind: api.TyUnion, Name: "<a>"}, api.ErrForm}, {api.Type{Kind: api.TyUnion, Lo: 1}, api.ErrForm}, {api.Type{Kind: api.TyUnion, Hi: 1}, api.ErrForm}, {api.Type{Kind: api.TyUnion, Args: []api.Type{class("<a>"), {}}}, api.ErrForm},
		{api.Type{Kind: api.TyUnion, Args: slices.Repeat([]api.Type{class("<a>")}, api.MaxArgs)}, api.OK}, {api.Type{Kind: api.TyUnion, Args: slices.Repeat([]api.Type{class("<a>")}, api.MaxArgs+1)}, api.ErrForm},
		{api.Type{Kind: 6, Name: "<a>"}, api.ErrForm}, {api.Type{Kind: -1}, api.ErrForm}, {api.Type{Kind: math.MinInt}, api.ErrForm},
	} {
		if e := CheckType(x.t); e != x.want {
			t.Errorf("CheckType(%+v) = %d; expected %d", x.t, e, x.want)
		}
		if text, e := PrintType(x.t); e != x.want || e != api.OK && text != "" {
			t.Errorf("PrintType(%+v) = %q, %d; expected %d", x.t, text, e, x.want)
		}
		m := api.MethodDef{Generic: "f", Result: class("<a>"), Body: num(1)}
		result, param := m, m
		result.Result = x.t
		param.Params = []api.Param{{Name: "x", Type: x.t}}
		for _, d := range []api.Def{
			{Kind: api.DfMethod, Method: result}, {Kind: api.DfMethod, Method: param}, {Kind: api.DfDomain, Domain: api.DomainDef{Generic: "f", Types: []api.Type{class("<a>"), x.t}}},
			{Kind: api.DfClass, Class: api.ClassDef{Name: "c", Supers: []string{"b"}, Slots: []api.Slot{{Name: "x", Type: x.t, Alloc: api.SlInst}}}},
		} {
			if e := Check(api.Source{Name: "a", Defs: []api.Def{d}}); e != x.want {
				t.Errorf("Check(%+v) = %d; expected %d", d, e, x.want)
			}
		}
		checkAll(t, api.Expr{Kind: api.ExIs, Type: x.t, Args: variables(1)}, x.want)
	}
}

// A source with all that a library can have.
const whole = `library a ; use b ; use c , prefix: p ; use d , import: { x , y => z } ; export x , y ;
	define class c ( b@l , d ) slot x , init-keyword: k: , init-value: 3 ; virtual slot y ; each-subclass slot z ; class slot u ; end ; define generic f ( x , y ) ; define method f ( x , y ) => <a> x end ; define sealed domain f ( <a> , <b> ) ; define constant g = 1 ; 3`

func TestCheck(t *testing.T) {
	slots := func(s api.Source) []api.Slot { return s.Defs[0].Class.Slots }
	for i, change := range []func(s *api.Source){
		func(s *api.Source) { s.Patch = true }, func(s *api.Source) { s.Main = variables(2) }, func(s *api.Source) { s.Uses[1].Lib = "b" }, func(s *api.Source) { s.Exports[1] = "x" },
		// use clauses
		func(s *api.Source) { s.Uses[0].All = false }, func(s *api.Source) { s.Uses[2].All = true }, func(s *api.Source) { s.Uses[1].All = false }, func(s *api.Source) { s.Uses[2].Prefix = "p" }, func(s *api.Source) { s.Uses[1].Names = []api.Rename{{From: "x", To: "x"}} },
		// fields of other kinds
		func(s *api.Source) { s.Defs[0].Kind = 0 }, func(s *api.Source) { s.Defs[0].Kind = 6 }, func(s *api.Source) { s.Defs[0].Kind = api.DfGeneric }, func(s *api.Source) { s.Defs[4].Kind = api.DfClass }, func(s *api.Source) { s.Defs[0].Name = "x" }, func(s *api.Source) { s.Defs[0].Body = num(0) }, func(s *api.Source) { s.Defs[1].Body.Name = "x" }, func(s *api.Source) { s.Defs[1].Class.Name = "x" }, func(s *api.Source) { s.Defs[1].Class.Abstract = true }, func(s *api.Source) { s.Defs[1].Class.Sealed = true }, func(s *api.Source) { s.Defs[1].Class.Supers = []string{""} }, func(s *api.Source) { s.Defs[1].Class.Slots = make([]api.Slot, 1) },
		func(s *api.Source) { s.Defs[0].Generic.Name = "x" }, func(s *api.Source) { s.Defs[0].Generic.Arity = 1 }, func(s *api.Source) { s.Defs[0].Generic.Sealed = true }, func(s *api.Source) { s.Defs[3].Method.Generic = "f" }, func(s *api.Source) { s.Defs[3].Method.Params = make([]api.Param, 1) }, func(s *api.Source) { s.Defs[3].Method.Result = class("<a>") }, func(s *api.Source) { s.Defs[3].Method.Result.Lo = 1 }, func(s *api.Source) { s.Defs[3].Method.Body = num(0) }, func(s *api.Source) { s.Defs[2].Domain.Generic = "f" }, func(s *api.Source) { s.Defs[4].Domain.Types = make([]api.Type, 1) }, func(s *api.Source) { s.Defs[2].Name = "f" }, func(s *api.Source) { s.Defs[2].Body = num(1) },
		// fields that are needed
		func(s *api.Source) { s.Defs[4].Body = api.Expr{} }, func(s *api.Source) { s.Defs[2].Method.Body = api.Expr{} }, func(s *api.Source) { s.Defs[2].Method.Result = api.Type{} }, func(s *api.Source) { slots(*s)[1].Type = api.Type{} }, func(s *api.Source) { s.Defs[0].Class.Supers = nil },
		// classes
		func(s *api.Source) { slots(*s)[0].Alloc = 0 }, func(s *api.Source) { slots(*s)[0].Alloc = 5 }, func(s *api.Source) { slots(*s)[0].Alloc = -1 }, func(s *api.Source) { slots(*s)[1].Key = "k" }, func(s *api.Source) { slots(*s)[1].Init = variables(1) }, func(s *api.Source) { slots(*s)[0].Alloc = api.SlVirt }, func(s *api.Source) { slots(*s)[0].Init = variables(2) }, func(s *api.Source) { slots(*s)[3].Name = "x" },
		// the others
		func(s *api.Source) { s.Defs[1].Generic.Arity = -1 }, func(s *api.Source) { s.Defs[1].Generic.Arity = api.MaxParams + 1 }, func(s *api.Source) { s.Defs[2].Method.Params[1].Name = "x" },
	} {
		s := mustSource(t, whole)
		change(&s)
		if e := Check(s); e != api.ErrForm {
			t.Errorf("Check with the change %d = %d", i, e)
		}
		if text, e := Print(s); e != api.ErrForm || text != "" {
			t.Errorf("Print with the change %d = %q, %d", i, text, e)
		}
	}
	for i, change := range []func(s *api.Source){
		func(s *api.Source) {}, func(s *api.Source) { s.Main = nil }, func(s *api.Source) { s.Uses = nil }, func(s *api.Source) { s.Exports = []string{} }, func(s *api.Source) { s.Defs = nil }, func(s *api.Source) { s.Patch, s.Main, s.Uses, s.Exports = true, nil, []api.Use{}, nil }, func(s *api.Source) { s.Uses[1].Lib = "a" }, func(s *api.Source) { s.Uses[2].Names[1].To = "x" },
		func(s *api.Source) { s.Defs[0].Class.Supers[1] = "b@l" }, func(s *api.Source) { slots(*s)[3].Key, slots(*s)[2].Key = "k", "k" }, func(s *api.Source) { slots(*s)[0].Alloc = api.SlEach }, func(s *api.Source) { s.Defs[1].Generic.Arity = 0 }, func(s *api.Source) { s.Defs[1].Generic.Arity = api.MaxParams }, func(s *api.Source) { s.Defs = append(s.Defs, s.Defs...) },
	} {
		s := mustSource(t, whole)
		change(&s)
		if e := Check(s); e != api.OK {
			t.Errorf("Check with the right change %d = %d", i, e)
		}
	}
	for _, kind := range []int{0, 1, 2, 3, 4, 5, 6, -1, math.MaxInt, math.MinInt} {
		if e := Check(api.Source{Name: "a", Defs: []api.Def{{Kind: kind}}}); e != api.ErrForm {
			t.Errorf("Check of an empty definition of the kind %d = %d", kind, e)
		}
	}
	if e := Check(api.Source{}); e != api.ErrForm {
		t.Errorf("Check of an empty source = %d", e)
	}
}

func TestNamesInSource(t *testing.T) {
	for _, x := range strange {
		for i, y := range []struct {
			change func(s *api.Source)
			right  bool
		}{
			{func(s *api.Source) { s.Name = x.name }, x.lib}, {func(s *api.Source) { s.Uses[1].Lib = x.name }, x.lib}, {func(s *api.Source) { s.Uses[1].Prefix = x.name }, x.plain || x.name == ""}, {func(s *api.Source) { s.Uses[2].Names[0].From = x.name }, x.plain}, {func(s *api.Source) { s.Uses[2].Names[0].To = x.name }, x.plain}, {func(s *api.Source) { s.Exports = []string{x.name} }, x.plain},
			{func(s *api.Source) { s.Defs[0].Class.Name = x.name }, x.plain}, {func(s *api.Source) { s.Defs[0].Class.Supers[1] = x.name }, x.isName}, {func(s *api.Source) {
				s.Defs[0].Class.Slots = s.Defs[0].Class.Slots[:1]
				s.Defs[0].Class.Slots[0].Name = x.name
			}, x.plain}, {func(s *api.Source) { s.Defs[0].Class.Slots[0].Key = x.name }, x.keyword || x.name == ""}, {func(s *api.Source) { s.Defs[1].Generic.Name = x.name }, x.plain},
			{func(s *api.Source) { s.Defs[2].Method.Generic = x.name }, x.isName}, {func(s *api.Source) { s.Defs[2].Method.Params = params(x.name) }, x.isName}, {func(s *api.Source) { s.Defs[3].Domain.Generic = x.name }, x.isName}, {func(s *api.Source) { s.Defs[4].Name = x.name }, x.plain},
		} {
			s := mustSource(t, whole)
			y.change(&s)
			if e := Check(s); e != formIf(y.right) {
				t.Errorf("Check with the name %q at %d = %d", x.name, i, e)
			}
		}
	}
}

// The limits of lists in sources, just within and just beyond.
func TestLimitsOfSource(t *testing.T) {
	for _, x := range []struct {
		limit  int
		change func(s *api.Source, n int)
	}{
		{api.MaxLibs, func(s *api.Source, n int) { s.Uses = mustSource(t, "library a ; "+numbered(n, "use b# ;", " ")).Uses }}, {api.MaxArgs, func(s *api.Source, n int) { s.Uses[2].Names = slices.Repeat([]api.Rename{{From: "x", To: "y"}}, n) }}, {api.MaxArgs, func(s *api.Source, n int) { s.Exports = strings.Fields(numbered(n, "x#", " ")) }}, {api.MaxDefs, func(s *api.Source, n int) { s.Defs = slices.Repeat(s.Defs[1:2], n) }},
		{api.MaxSupers, func(s *api.Source, n int) { s.Defs[0].Class.Supers = slices.Repeat([]string{"b"}, n) }}, {api.MaxSlots, func(s *api.Source, n int) {
			s.Defs[0].Class.Slots = mapped(strings.Fields(numbered(n, "x#", " ")), func(s string) api.Slot { return api.Slot{Name: s, Type: class("<a>"), Alloc: api.SlInst} })
		}}, {api.MaxParams, func(s *api.Source, n int) { s.Defs[1].Generic.Arity = n }}, {api.MaxParams, func(s *api.Source, n int) {
			s.Defs[2].Method.Params = params(strings.Fields(numbered(n, "x#", " "))...)
		}}, {api.MaxParams, func(s *api.Source, n int) { s.Defs[3].Domain.Types = slices.Repeat([]api.Type{class("<a>")}, n) }}, {1, func(s *api.Source, n int) { s.Main = variables(n) }},
	} {
		for _, more := range []int{0, 1} {
			s := mustSource(t, whole)
			if x.limit == api.MaxLibs && more == 1 {
				s.Uses = append(mustSource(t, "library a ; "+numbered(x.limit, "use b# ;", " ")).Uses, api.Use{Lib: "z", All: true})
			} else {
				x.change(&s, x.limit+more)
			}
			if e := Check(s); e != formIf(more == 0) {
				t.Errorf("Check with %d of %d = %d", x.limit+more, x.limit, e)
			}
		}
	}
}

// deepExpr is n expressions within each other.
func deepExpr(n int) api.Expr {
	e := num(1)
	for range n - 1 {
		e = api.Expr{Kind: api.ExBlock, Args: []api.Expr{e}}
	}
	return e
}

func deepType(n int) api.Type {
	t := api.Type{Kind: api.TyUnion}
	for range n - 1 {
		t = api.Type{Kind: api.TyUnion, Args: []api.Type{t}}
	}
	return t
}

// wide is an expression with n expressions and types.
func wide(n int) api.Expr {
	return api.Expr{Kind: api.ExSeq, Args: variables(n - 1)}
}

func TestDepthAndNumber(t *testing.T) {
	isA := func(x api.Type) api.Expr { return api.Expr{Kind: api.ExIs, Type: x, Args: variables(1)} }
	in := func(e api.Expr, n int) api.Expr { // e within n others
		for range n {
			e = api.Expr{Kind: api.ExBlock, Args: []api.Expr{e}}
		}
		return e
	}
	bad := func(e api.Expr) api.Expr { e.Num = 1; return e }
	for _, x := range []struct {
		e    api.Expr
		want api.Errno
	}{
		{deepExpr(api.MaxDeep), api.OK}, {deepExpr(api.MaxDeep + 1), api.ErrDeep}, {isA(deepType(api.MaxDeep)), api.OK}, {isA(deepType(api.MaxDeep + 1)), api.ErrDeep}, {in(isA(deepType(api.MaxDeep)), api.MaxDeep-2), api.OK}, {in(isA(deepType(1)), api.MaxDeep-1), api.ErrDeep},
		{api.Expr{Kind: api.ExFn, Params: []api.Param{{Name: "x", Type: deepType(api.MaxDeep + 1)}}, Args: variables(1)}, api.ErrDeep}, {api.Expr{Kind: api.ExFn, Params: []api.Param{{Name: "x", Type: deepType(api.MaxDeep)}}, Args: variables(1)}, api.OK},
		{wide(api.MaxNodes), api.OK}, {wide(api.MaxNodes + 1), api.ErrLong}, {api.Expr{Kind: api.ExSeq, Args: append(variables(api.MaxNodes-3), isA(class("<a>")))}, api.ErrLong}, {api.Expr{Kind: api.ExSeq, Args: append(variables(api.MaxNodes-4), isA(class("<a>")))}, api.OK},
		// ErrLong comes ahead of ErrDeep, and both ahead of ErrForm; the kinds do not matter
		{bad(deepExpr(api.MaxDeep)), api.ErrForm}, {bad(deepExpr(api.MaxDeep + 1)), api.ErrDeep}, {bad(deepExpr(api.MaxNodes)), api.ErrDeep}, {deepExpr(api.MaxNodes + 1), api.ErrLong}, {bad(wide(api.MaxNodes + 1)), api.ErrLong}, {bad(wide(api.MaxNodes)), api.ErrForm}, {api.Expr{Args: make([]api.Expr, api.MaxNodes-1)}, api.ErrForm}, {api.Expr{Args: make([]api.Expr, api.MaxNodes)}, api.ErrLong},
		{api.Expr{Kind: api.ExNum, Type: class("<a>"), Args: make([]api.Expr, api.MaxNodes-2)}, api.ErrForm}, {api.Expr{Kind: api.ExNum, Type: class("<a>"), Args: make([]api.Expr, api.MaxNodes-1)}, api.ErrLong}, {api.Expr{Params: make([]api.Param, api.MaxNodes-1)}, api.ErrForm}, {api.Expr{Params: make([]api.Param, api.MaxNodes)}, api.ErrLong},
		{api.Expr{Kind: api.ExVar, Name: "x", Type: deepType(api.MaxDeep + 1)}, api.ErrDeep}, {api.Expr{Kind: api.ExVar, Name: "x", Keys: make([]string, 2*api.MaxNodes)}, api.ErrForm},
		{isA(api.Type{Kind: api.TyUnion, Args: make([]api.Type, api.MaxNodes)}), api.ErrForm}, {isA(api.Type{Kind: api.TyUnion, Args: slices.Repeat([]api.Type{class("<a>")}, api.MaxNodes-2)}), api.ErrLong}, {isA(api.Type{Kind: api.TyUnion, Args: slices.Repeat([]api.Type{class("<a>")}, api.MaxNodes-3)}), api.ErrForm},
	} {
		if e := CheckExpr(x.e); e != x.want {
			t.Errorf("CheckExpr(%.60s) = %d; expected %d", showAny(x.e), e, x.want)
		}
		if text, e := PrintExpr(x.e); e != x.want && e != api.ErrLong || e != api.OK && text != "" {
			t.Errorf("PrintExpr(%.60s) = %d; expected %d", showAny(x.e), e, x.want)
		}
		if e := Check(api.Source{Name: "a", Main: []api.Expr{x.e}}); e != x.want {
			t.Errorf("Check with %.60s = %d; expected %d", showAny(x.e), e, x.want)
		}
	}
	for _, x := range []struct {
		t    api.Type
		want api.Errno
	}{
		{deepType(api.MaxDeep), api.OK}, {deepType(api.MaxDeep + 1), api.ErrDeep}, {deepType(api.MaxNodes), api.ErrDeep}, {deepType(api.MaxNodes + 1), api.ErrLong}, {api.Type{Args: []api.Type{deepType(api.MaxDeep - 1)}}, api.ErrForm}, {api.Type{Args: []api.Type{deepType(api.MaxDeep)}}, api.ErrDeep}, {api.Type{Kind: api.TyUnion, Args: slices.Repeat([]api.Type{class("<a>")}, api.MaxNodes-1)}, api.ErrForm}, {api.Type{Kind: api.TyUnion, Args: slices.Repeat([]api.Type{class("<a>")}, api.MaxNodes)}, api.ErrLong},
	} {
		if e := CheckType(x.t); e != x.want {
			t.Errorf("CheckType of %d Args = %d; expected %d", len(x.t.Args), e, x.want)
		}
	}
}

// showAny is a text for any expression.
func showAny(e api.Expr) string {
	if CheckExpr(e) == api.OK {
		return show(e)
	}
	return "an expression that is not well-formed"
}

// The number in the whole source, each part of which is counted.
func TestNumberInSource(t *testing.T) {
	fill := func(s api.Source, n int) api.Source {
		s.Main = []api.Expr{wide(n)}
		return s
	}
	const parts = 1 + 1 + 1 + 1 + 1 + 2 + 1 + 1 + 2 + 1 // of whole without Main: four slots and an init, two parameters, a result and a body, two types, a constant
	for _, x := range []struct {
		s    api.Source
		want api.Errno
	}{
		{fill(mustSource(t, whole), api.MaxNodes-parts), api.OK}, {fill(mustSource(t, whole), api.MaxNodes-parts+1), api.ErrLong}, {api.Source{Name: "a", Main: []api.Expr{wide(2000), wide(1001)}}, api.ErrLong}, {api.Source{Name: "a", Main: []api.Expr{wide(2000), wide(1000)}}, api.ErrForm},
		{api.Source{Defs: []api.Def{{Kind: api.DfGeneric, Body: wide(api.MaxNodes + 1)}}}, api.ErrLong}, {api.Source{Defs: []api.Def{{Kind: api.DfConst, Body: wide(api.MaxNodes)}}}, api.ErrForm}, {api.Source{Defs: []api.Def{{Kind: 9, Method: api.MethodDef{Body: deepExpr(api.MaxDeep + 1)}}}}, api.ErrDeep}, {api.Source{Defs: []api.Def{{Kind: 9, Method: api.MethodDef{Result: deepType(api.MaxDeep + 1)}}}}, api.ErrDeep}, {api.Source{Defs: []api.Def{{Kind: 9, Method: api.MethodDef{Params: []api.Param{{Type: deepType(api.MaxDeep + 1)}}}}}}, api.ErrDeep}, {api.Source{Defs: []api.Def{{Kind: 9, Domain: api.DomainDef{Types: []api.Type{deepType(api.MaxDeep + 1)}}}}}, api.ErrDeep},
		{api.Source{Defs: []api.Def{{Kind: 9, Class: api.ClassDef{Slots: []api.Slot{{Type: deepType(api.MaxDeep + 1)}}}}}}, api.ErrDeep}, {api.Source{Defs: []api.Def{{Class: api.ClassDef{Slots: []api.Slot{{Init: []api.Expr{num(1), deepExpr(api.MaxDeep + 1)}}}}}}}, api.ErrDeep}, {api.Source{Defs: make([]api.Def, api.MaxNodes+1)}, api.ErrForm}, {api.Source{Defs: []api.Def{{Kind: api.DfDomain, Domain: api.DomainDef{Types: make([]api.Type, api.MaxNodes+1)}}}}, api.ErrLong}, {api.Source{Defs: []api.Def{{Kind: api.DfDomain, Domain: api.DomainDef{Types: make([]api.Type, api.MaxNodes)}}}}, api.ErrForm},
		{api.Source{Name: "a", Defs: []api.Def{{Kind: api.DfMethod, Method: api.MethodDef{Generic: "f", Params: []api.Param{{Name: "x", Type: deepType(api.MaxDeep)}}, Result: deepType(api.MaxDeep), Body: deepExpr(api.MaxDeep)}}}}, api.OK}, {api.Source{Name: "a", Defs: []api.Def{{Kind: api.DfDomain, Domain: api.DomainDef{Generic: "f", Types: []api.Type{deepType(api.MaxDeep)}}}, {Kind: api.DfConst, Name: "c", Body: deepExpr(api.MaxDeep)}}}, api.OK},
		{api.Source{Name: "a", Defs: []api.Def{{Kind: api.DfClass, Class: api.ClassDef{Name: "c", Supers: []string{"b"}, Slots: []api.Slot{{Name: "x", Type: deepType(api.MaxDeep), Alloc: 1, Init: []api.Expr{deepExpr(api.MaxDeep)}}}}}}}, api.OK},
		{api.Source{Patch: true, Defs: []api.Def{{Body: deepExpr(api.MaxDeep + 1)}}, Main: []api.Expr{wide(api.MaxNodes)}}, api.ErrLong},
	} {
		if e := Check(x.s); e != x.want {
			t.Errorf("Check(%.80s) = %d; expected %d", showSource(api.Source{Name: x.s.Name}), e, x.want)
		}
	}
}

// What has no end is too long.
func TestEndless(t *testing.T) {
	args := make([]api.Expr, 3)
	for i := range args {
		args[i] = api.Expr{Kind: api.ExCall, Args: args}
	}
	types := make([]api.Type, 2)
	for i := range types {
		types[i] = api.Type{Kind: api.TyUnion, Args: types}
	}
	if e := CheckExpr(args[0]); e != api.ErrLong {
		t.Errorf("CheckExpr = %d", e)
	}
	if e := CheckType(types[0]); e != api.ErrLong {
		t.Errorf("CheckType = %d", e)
	}
	if e := CheckExpr(api.Expr{Kind: api.ExIs, Type: types[1], Args: args}); e != api.ErrLong {
		t.Errorf("CheckExpr = %d", e)
	}
	if e := Check(api.Source{Name: "a", Main: args}); e != api.ErrLong {
		t.Errorf("Check = %d", e)
	}
	if Size(args[0]) != 0 || Free(args[0]) != nil || Alpha(args[0], args[0]) {
		t.Error("Size, Free or Alpha take it")
	}
	if l := Accessors(api.ClassDef{Name: "c", Slots: []api.Slot{{Name: "x", Type: class("<a>"), Alloc: 1}, {Name: "y", Type: types[0], Alloc: 1}}}); len(l) != 0 {
		t.Errorf("Accessors has %d methods", len(l))
	}
	if l := Accessors(api.ClassDef{Name: "c", Slots: []api.Slot{{Name: "x", Type: class("<a>"), Alloc: 1}, {Name: "y", Type: types[0], Alloc: api.SlVirt}}}); len(l) != 2 {
		t.Errorf("Accessors has %d methods", len(l))
	}
}

func TestSize(t *testing.T) {
	for _, x := range []struct {
		text string
		want int
	}{
		{"1", 1}, {"a + b", 3}, {"method ( x , y :: type-union ( <a> , <b> ) ) x end", 6}, {"instance? ( a , <b> )", 3}, {"begin let handler type-union ( ) = h ; a end", 4}, {"a | b", 6}, {"if ( a ) b end", 4}, {"make ( a , k: b )", 3}, {"begin let x = 1 ; x end", 3}, {"- a", 3}, {"load-patch ( 3 )", 1},
	} {
		if n := Size(must(t, x.text)); n != x.want {
			t.Errorf("Size(%s) = %d; expected %d", x.text, n, x.want)
		}
	}
	if Size(wide(api.MaxNodes)) != api.MaxNodes || Size(wide(api.MaxNodes+1)) != 0 || Size(deepExpr(api.MaxDeep)) != api.MaxDeep || Size(deepExpr(api.MaxDeep+1)) != 0 || Size(api.Expr{}) != 0 {
		t.Error("Size is not right at the limits")
	}
}
