package syntax

import (
	"math"
	"slices"
	"strings"
	"testing"

	"skerry/api"
)

// The measure of P4.2.

func measure(e api.Expr) int {
	n := 64 + len(e.Name) + measureOfParams(e.Params)
	if !same(e.Type, api.Type{}) {
		n += measureOfType(e.Type)
	}
	for _, k := range e.Keys {
		n += 64 + len(k)
	}
	for _, a := range e.Args {
		n += measure(a)
	}
	return n
}

func measureOfType(t api.Type) int {
	n := 64 + len(t.Name)
	for _, a := range t.Args {
		n += measureOfType(a)
	}
	return n
}

func measureOfParams(l []api.Param) int {
	n := 0
	for _, p := range l {
		n += 64 + len(p.Name) + measureOfType(p.Type)
	}
	return n
}

func measureOf(s api.Source) int {
	n := 0
	for _, u := range s.Uses {
		n += 64 + len(u.Lib) + len(u.Prefix)
		for _, r := range u.Names {
			n += 64 + len(r.From) + len(r.To)
		}
	}
	for _, x := range s.Exports {
		n += 64 + len(x)
	}
	for _, d := range s.Defs {
		n += 64 + measureOfDefinition(d)
	}
	for _, e := range s.Main {
		n += measure(e)
	}
	return n
}

func measureOfDefinition(d api.Def) int {
	switch d.Kind {
	case api.DfGeneric:
		return len(d.Generic.Name)
	case api.DfMethod:
		return len(d.Method.Generic) + measureOfParams(d.Method.Params) + measureOfType(d.Method.Result) + measure(d.Method.Body)
	case api.DfDomain:
		return len(d.Domain.Generic) + measureOfType(api.Type{Args: d.Domain.Types}) - 64
	case api.DfConst:
		return len(d.Name) + measure(d.Body)
	}
	n := len(d.Class.Name)
	for _, x := range d.Class.Supers {
		n += 64 + len(x)
	}
	for _, s := range d.Class.Slots {
		n += 64 + len(s.Name) + len(s.Key) + measureOfType(s.Type)
		for _, e := range s.Init {
			n += measure(e)
		}
	}
	return n
}

// P4.2: texts of single expressions, in which nothing but integers below 0 needs care

func TestPrintExpr(t *testing.T) {
	for _, x := range []string{
		"1", "-1", "a", "#t", "a - ( 2 - 3 )", "( 1 - 2 ) - 3", "1 - ( -3 )", "( -3 ) - 1", "~ ( -3 )", "~ ( ~ a )", "- a", "- ( - 3 )", "( a | b ) | c", "a | ( b | c )", "a | b & c", "( a + b ) ( c )", "( ~ a ) ( )", "( a | b ) ( )", "( -3 ) ( -3 )", "a = b = c", "a = ( b = c )", "begin ( a = b ) end ( c )",
		"begin -1 ; -2 ; -3 end", "begin a ; -1 end", "begin let x = -1 ; -2 end", "begin let handler limited ( -1 , -1 ) = -1 ; -2 end", "begin local method f ( x == -1 ) -1 end ; -2 end", "begin local method f ( ) end ; f end", "begin let f = method ( ) f end ; f end", "method ( ) -1 end", "method ( x :: limited ( -2 , -1 ) ) -1 end", "method ( ) ( a + b ) * c end", "method ( x ) ( a ) ( b ) end",
		"if ( -1 ) -1 else -1 end", "if ( -1 ) -1 elseif ( -1 ) -1 else -1 end", "if ( a ) ( b ) ( c ) else ( d + e ) * f end", "block ( ) -1 cleanup -1 end", "block ( x ) ( -1 ) ( x ) end", "next-method ( -1 , -1 )", "make ( -1 , k: -1 , l: -1 )", "instance? ( -1 , singleton ( -1 ) )", "print ( -1 )", "quotient ( -1 , -1 )", "object-class ( -1 )", "-1 / -1", "x ( -1 ) := -1", "( -1 ) . x := -1", "-1 & -1", "-1 | -1", "-1 < -1",
		"begin begin a ; b end ; begin c ; d end end", "begin a ; begin let x = b ; c end ; d end", "begin a ; let x = begin b ; c end ; begin d ; e end end", "begin let x = begin let y = a ; y end ; x end", "begin let x = a ; a ; let y = b ; b ; c end", "if ( begin a ; b end ) begin a ; b end else let end",
	} {
		x = strings.Replace(x, "else let end", "else begin let x = a ; x end end", 1)
		e := must(t, x)
		text, err := PrintExpr(e)
		if err != api.OK {
			t.Errorf("PrintExpr(%s) = %d", x, err)
			continue
		}
		if again, at, err := ParseExpr(scanned(t, text)); err != api.OK || !same(again, e) {
			t.Errorf("PrintExpr(%s) = %s, which is parsed as %s, %d at %d", x, text, show(again), err, at)
		}
	}
}

// Integers below 0 in the places of sources.
func TestPrintIntegers(t *testing.T) {
	for _, x := range []string{
		"library a ; -1", "library a ; define constant x = -1 ; -1", "library a ; define method f ( ) -1 end ;", "library a ; define method f ( x == -1 ) => singleton ( -1 ) -1 end ;", "library a ; define sealed domain f ( singleton ( -1 ) , limited ( -2 , -1 ) ) ;", "library a ; define class c ( b ) slot x :: singleton ( -1 ) , init-keyword: k: , init-value: -1 ; slot y , init-value: -1 ; end ;", "patch a ; define method f ( ) -1 ; -1 end ;",
	} {
		s := mustSource(t, x)
		text, e := Print(s)
		if e != api.OK {
			t.Errorf("Print(%s) = %d", x, e)
			continue
		}
		if again, at, e := ParseTokens(scanned(t, text)); e != api.OK || !same(again, s) {
			t.Errorf("Print(%s) = %s, which is parsed as %s, %d at %d", x, text, showSource(again), e, at)
		}
	}
}

// printed fails unless an expression can be printed, and the text parsed.
func printed(t *testing.T, name string, e api.Expr) {
	t.Helper()
	text, err := PrintExpr(e)
	if err != api.OK {
		t.Errorf("PrintExpr of %s with the measure %d = %d", name, measure(e), err)
		return
	}
	if again, at, err := ParseExpr(scanned(t, text)); err != api.OK || !same(again, e) {
		t.Errorf("PrintExpr of %s is parsed with %d at %d", name, err, at)
	}
}

// The deepest trees of each kind can be printed, and their texts parsed.
func TestPrintDeep(t *testing.T) {
	leaf := num(math.MinInt)
	for name, around := range map[string]func(e api.Expr) api.Expr{
		"function called": func(e api.Expr) api.Expr { return node(api.ExCall, e) }, "argument": func(e api.Expr) api.Expr { return node(api.ExCall, leaf, e) }, "test": func(e api.Expr) api.Expr { return node(api.ExIf, e, leaf, leaf) }, "then": func(e api.Expr) api.Expr { return node(api.ExIf, leaf, e, leaf) }, "else": func(e api.Expr) api.Expr { return node(api.ExIf, leaf, leaf, e) }, "first": func(e api.Expr) api.Expr { return node(api.ExSeq, e, leaf) }, "last": func(e api.Expr) api.Expr { return node(api.ExSeq, leaf, e) },
		"value": func(e api.Expr) api.Expr { x := node(api.ExLet, e, leaf); x.Name = "x"; return x }, "scope": func(e api.Expr) api.Expr { x := node(api.ExLet, leaf, e); x.Name = "x"; return x }, "function": func(e api.Expr) api.Expr { return node(api.ExFn, e) }, "block": func(e api.Expr) api.Expr { return node(api.ExBlock, e) }, "cleanup": func(e api.Expr) api.Expr { return node(api.ExBlock, leaf, e) }, "handler": func(e api.Expr) api.Expr { x := node(api.ExHandle, e, leaf); x.Type = class("a"); return x }, "handled": func(e api.Expr) api.Expr { x := node(api.ExHandle, leaf, e); x.Type = class("a"); return x },
		"next": func(e api.Expr) api.Expr { return node(api.ExNext, e) }, "make": func(e api.Expr) api.Expr { return node(api.ExMake, e) }, "key": func(e api.Expr) api.Expr { x := node(api.ExMake, leaf, e); x.Keys = []string{"k"}; return x }, "is": func(e api.Expr) api.Expr { x := node(api.ExIs, e); x.Type = class("a"); return x }, "not": func(e api.Expr) api.Expr { return prim("not", e) }, "print": func(e api.Expr) api.Expr { return prim("print", e) }, "left": func(e api.Expr) api.Expr { return prim("-", e, leaf) }, "right": func(e api.Expr) api.Expr { return prim("-", num(0), e) }, "quotient": func(e api.Expr) api.Expr { return prim("quotient", e, e) },
	} {
		e := leaf
		for i := range api.MaxDeep - 1 {
			e = around(e)
			if name == "quotient" && i > 4 {
				e.Args[1] = leaf
			}
		}
		printed(t, name, e)
	}
	for name, around := range map[string]func(e api.Expr) api.Expr{
		"left of |": func(e api.Expr) api.Expr { return or(e, leaf) }, "right of |": func(e api.Expr) api.Expr { return or(leaf, e) }, "local method": func(e api.Expr) api.Expr {
			f := node(api.ExFn, e)
			f.Name = "f"
			x := node(api.ExLet, f, leaf)
			x.Name = "f"
			return x
		}, "~ of -": func(e api.Expr) api.Expr { return prim("not", prim("-", e, leaf)) }, "callee and ~": func(e api.Expr) api.Expr { return node(api.ExCall, prim("not", e)) }, "body and ~": func(e api.Expr) api.Expr { return node(api.ExFn, prim("not", e)) },
	} {
		e := leaf
		for range api.MaxDeep/2 - 1 {
			e = around(e)
		}
		printed(t, name, e)
	}
	if text, e := PrintType(deepType(api.MaxDeep)); e != api.OK {
		t.Errorf("PrintType of a deep type = %d", e)
	} else if again, _, e := ParseType(scanned(t, text)); e != api.OK || !same(again, deepType(api.MaxDeep)) {
		t.Errorf("the text of a deep type is parsed with %d", e)
	}
}

// The trees whose texts are the longest for their measure can be printed up to it.
func TestPrintUpToMeasure(t *testing.T) {
	long, key := times(api.MaxName, "a"), times(api.MaxName-1, "a")
	widest := api.Type{Kind: api.TyInt, Lo: math.MinInt, Hi: math.MinInt + 1}
	leaf := num(math.MinInt)
	named := func(name string) api.Expr { return v(name) }
	for name, part := range map[string]func(i int) api.Expr{
		"numbers": func(int) api.Expr { return leaf }, "names": func(int) api.Expr { return named("a") }, "long names": func(int) api.Expr { return named(long) }, "types": func(int) api.Expr { return api.Expr{Kind: api.ExIs, Type: widest, Args: []api.Expr{leaf}} }, "unions": func(int) api.Expr {
			return api.Expr{Kind: api.ExIs, Type: api.Type{Kind: api.TyUnion, Args: slices.Repeat([]api.Type{widest}, api.MaxArgs)}, Args: []api.Expr{leaf}}
		}, "functions": func(int) api.Expr {
			return api.Expr{Kind: api.ExFn, Params: []api.Param{{Name: "a", Type: widest}, {Name: "b", Type: widest}, {Name: "c", Type: widest}, {Name: "d", Type: widest}, {Name: "e", Type: widest}, {Name: "f", Type: widest}}, Args: []api.Expr{leaf}}
		}, "local methods": func(int) api.Expr {
			return api.Expr{Kind: api.ExLet, Name: "f", Args: []api.Expr{{Kind: api.ExFn, Name: "f", Args: []api.Expr{leaf}}, leaf}}
		}, "lets": func(int) api.Expr { return api.Expr{Kind: api.ExLet, Name: "f", Args: []api.Expr{leaf, leaf}} }, "handlers": func(int) api.Expr { return api.Expr{Kind: api.ExHandle, Type: widest, Args: []api.Expr{leaf, leaf}} }, "blocks": func(int) api.Expr { return node(api.ExBlock, leaf, leaf) }, "conditionals": func(int) api.Expr { return node(api.ExIf, leaf, leaf, leaf) }, "choices": func(int) api.Expr { return or(or(leaf, leaf), or(leaf, leaf)) },
		"calls": func(int) api.Expr { return node(api.ExCall, prim("not", leaf)) }, "next": func(int) api.Expr { return node(api.ExNext) }, "make": func(int) api.Expr {
			return api.Expr{Kind: api.ExMake, Keys: []string{key, key[1:]}, Args: []api.Expr{leaf, leaf, leaf}}
		}, "primitives": func(int) api.Expr { return prim("class-of", prim("not", prim("quotient", leaf, leaf))) }, "patches": func(int) api.Expr { return api.Expr{Kind: api.ExLoad, Num: math.MaxInt} }, "operators": func(int) api.Expr { return prim("<=", prim("==", leaf, leaf), prim(">=", leaf, leaf)) },
	} {
		e := node(api.ExSeq, part(0), part(1))
		for i := 2; measure(e)+measure(part(i)) <= api.MaxText; i++ {
			e.Args = append(e.Args, part(i))
		}
		if n := measure(e); n < 18000 {
			t.Errorf("%s have the measure %d", name, n)
		}
		printed(t, name, e)
	}
	slot := func(i int) api.Slot {
		return api.Slot{Name: numbered(i+1, "s#", " ")[3*i+max(i-10, 0):], Type: widest, Alloc: api.SlEach, Key: key, Init: []api.Expr{leaf}}
	}
	classDef := api.Def{Kind: api.DfClass, Class: api.ClassDef{Name: "c", Abstract: true, Sealed: true, Supers: slices.Repeat([]string{"b"}, api.MaxSupers)}}
	for i := range api.MaxSlots {
		classDef.Class.Slots = append(classDef.Class.Slots, slot(i))
	}
	for name, d := range map[string]api.Def{
		"classes": classDef, "small classes": {Kind: api.DfClass, Class: api.ClassDef{Name: "c", Supers: []string{"b"}, Abstract: true, Sealed: true}}, "generic functions": {Kind: api.DfGeneric, Generic: api.GenericDef{Name: "f", Arity: api.MaxParams, Sealed: true}}, "methods": {Kind: api.DfMethod, Method: api.MethodDef{Generic: "f", Params: []api.Param{{Name: "a", Type: widest}}, Result: widest, Body: leaf}},
		"domains": {Kind: api.DfDomain, Domain: api.DomainDef{Generic: "f", Types: slices.Repeat([]api.Type{widest}, api.MaxParams)}}, "small domains": {Kind: api.DfDomain, Domain: api.DomainDef{Generic: "f"}}, "constants": {Kind: api.DfConst, Name: "c", Body: leaf},
	} {
		s := api.Source{Name: long}
		for i := range api.MaxLibs {
			s.Uses = append(s.Uses, api.Use{Lib: "b" + times(i, "b"), Names: []api.Rename{{From: "a", To: "b"}, {From: "b", To: "a"}}})
		}
		s.Exports = strings.Fields(numbered(api.MaxArgs, "x#", " "))
		for len(s.Defs) < api.MaxDefs && measureOf(s)+64+measureOfDefinition(d) <= api.MaxText {
			s.Defs = append(s.Defs, d)
		}
		text, e := Print(s)
		if e != api.OK {
			t.Errorf("Print of %s with the measure %d = %d", name, measureOf(s), e)
			continue
		}
		if again, at, e := ParseTokens(scanned(t, text)); e != api.OK || !same(again, s) {
			t.Errorf("Print of %s is parsed with %d at %d", name, e, at)
		}
	}
}

// Texts and tokens, just within the limits and just beyond.
func TestLimitsOfPrint(t *testing.T) {
	either := node(api.ExIf, num(1), num(1), num(1)) // with a token more than other expressions of its size
	for _, x := range []struct {
		e    api.Expr
		want api.Errno
	}{
		{node(api.ExSeq, slices.Repeat([]api.Expr{num(1)}, api.MaxNodes-1)...), api.OK}, {node(api.ExSeq, slices.Repeat([]api.Expr{num(-1)}, api.MaxNodes-1)...), api.ErrLong}, {node(api.ExSeq, slices.Repeat([]api.Expr{v(times(api.MaxName, "a"))}, api.MaxNodes-1)...), api.ErrLong}, {node(api.ExSeq, append(slices.Repeat([]api.Expr{num(1)}, api.MaxNodes-5), either)...), api.OK}, {node(api.ExSeq, append(slices.Repeat([]api.Expr{num(1)}, api.MaxNodes-9), either, either)...), api.ErrLong},
	} {
		text, e := PrintExpr(x.e)
		if e != x.want || e != api.OK && text != "" || len(text) > api.MaxText || strings.Count(text, " ")+1 > api.MaxTokens {
			t.Errorf("PrintExpr of %d Args = %d bytes, %d; expected %d", len(x.e.Args), len(text), e, x.want)
		}
		if text, e := Print(api.Source{Name: "a", Main: []api.Expr{x.e}}); e != api.ErrLong || text != "" { // with three tokens more
			t.Errorf("Print of %d Args = %d bytes, %d; expected %d", len(x.e.Args), len(text), e, x.want)
		}
	}
	// Many names, one of which makes the text a byte longer at a time.
	for k := range 3 {
		e := node(api.ExSeq, append(slices.Repeat([]api.Expr{v(times(37, "a"))}, 498), v(times(38, "a")), v(times(28+k, "a")))...)
		text, err := PrintExpr(e)
		n := api.MaxText - 1 + k
		if short := n <= api.MaxText; short != (err == api.OK) || short && len(text) != n {
			t.Errorf("PrintExpr of %d bytes = %d bytes, %d", n, len(text), err)
		}
	}
	if text, e := PrintType(deepUnion(3, api.MaxArgs)); e != api.ErrLong && e != api.OK || e == api.OK && len(text) > api.MaxText {
		t.Errorf("PrintType of a wide type = %d bytes, %d", len(text), e)
	}
}

// deepUnion is a union of unions, and so on, each of which has so many Args.
func deepUnion(depth, width int) api.Type {
	if depth == 0 {
		return class("<a>")
	}
	return api.Type{Kind: api.TyUnion, Args: slices.Repeat([]api.Type{deepUnion(depth-1, width)}, width)}
}
