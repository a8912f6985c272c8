package library

import (
	"strings"
	"testing"

	"skerry/api"
	"skerry/lists"
	"skerry/module"
)

// geometry is interfaces: of a library, of one that shows less of it than it has, and of one that uses both.
func geometry(t *testing.T) []api.Interface {
	geo := shown(t, "library geo; export <shape>, area; define class <shape> (<object>) slot side; end; define generic area (s);"+incText)
	half := shown(t, "library half; export k; define constant k = 1; define constant hidden = 2;")
	both := shown(t, "library both; use geo, prefix: g_; use half, import: { k => one }; export one, g_area; define generic f (a, b);", geo, half)
	return []api.Interface{half, both, geo}
}

// P6.1, P6.8
func TestCompile(t *testing.T) {
	used := geometry(t)
	own := macros(t, whileText+twiceText)
	before := whole(used) + whole(own)
	for _, x := range []struct{ text, against string }{
		{"library a;", ""}, {"library a; 1", ""}, {"library a; use geo; area (2)", "geo"}, {"library a; use geo; use half; export area, c; define constant c = k;", "half geo"}, {"library a; use half; use geo; define class <disc> (<shape>) slot r, init-value: k; end; area (make (<disc>))", "half geo"},
		{"library a; use both, import: { one }; define method f (a) one end; define generic f (a);", "both"}, {"library a; use both, prefix: b; use half, import: { k => h }; bone + h", "half both"}, {"library a; use geo, prefix: g; define sealed domain garea (<integer>);", "geo"},
	} {
		s := source(t, x.text)
		faces := lists.Each(used, faceOf)
		resolved, main, e := module.Resolve(s, faces)
		if e != api.OK {
			t.Fatalf("Resolve(%s) = %d", x.text, e)
		}
		face, _ := module.Faced(s, faces)
		all, _ := module.Whole(s, faces)
		for _, own := range [][]api.Macro{nil, own} {
			u, e := Compile(s, own, used)
			want := api.Unit{Library: resolved, Main: main, Interface: api.Interface{Face: face, Whole: all, Macros: own}, Against: u.Against}
			if e != api.OK || !same(u, want) {
				t.Errorf("Compile(%s) = %+v, %d; expected %+v", x.text, u, e, want)
			}
			againstOf(t, x.text, u, x.against, used)
			if e := CheckUnit(u); e != api.OK || Check(u.Interface) != api.OK {
				t.Errorf("Compile(%s) is not valid: %d", x.text, e)
			}
			if !apart(u, s, own, used) {
				t.Errorf("Compile(%s) shares memory", x.text)
			}
		}
	}
	if after := whole(used) + whole(own); after != before {
		t.Errorf("Compile changed %s to %s", before, after)
	}
}

// againstOf expects a unit to have some of the interfaces that were given.
func againstOf(t *testing.T, text string, u api.Unit, against string, used []api.Interface) {
	t.Helper()
	if got := libs(u.Against); got != against {
		t.Errorf("Compile(%s) was against %s; expected %s", text, got, against)
	}
	for _, i := range u.Against {
		for _, j := range used {
			if libOf(i) == libOf(j) && !same(i, j) {
				t.Errorf("Compile(%s) was against %+v; expected %+v", text, i, j)
			}
		}
	}
}

// P6.1: a patch sees all of its library, and nothing of others but what this brings.
func TestCompilePatch(t *testing.T) {
	used := geometry(t)
	for _, text := range []string{
		"patch half;", "patch half; define constant more = hidden + k;", "patch geo; define method area (s :: <shape>) side (s) end; define class <shape> (<object>) slot side; slot more; end;", "patch both; define method f (a :: g_<shape>, b) g_area (one) end;",
	} {
		s := source(t, text)
		i := used[map[string]int{"half": 0, "both": 1, "geo": 2}[s.Name]]
		resolved, _, e := module.Resolve(s, []api.Face{i.Whole})
		if e != api.OK {
			t.Fatalf("Resolve(%s) = %d", text, e)
		}
		u, e := Compile(s, []api.Macro{}, used)
		if want := (api.Unit{Patch: true, Library: resolved, Against: []api.Interface{i}}); e != api.OK || !same(u, want) {
			t.Errorf("Compile(%s) = %+v, %d; expected %+v", text, u, e, want)
		}
		if e := CheckUnit(u); e != api.OK {
			t.Errorf("Compile(%s) is not valid: %d", text, e)
		}
		if !apart(u, s, used) {
			t.Errorf("Compile(%s) shares memory", text)
		}
	}
	for text, want := range map[string]api.Errno{
		"patch none;": api.ErrUse, "patch half; define constant c = one;": api.ErrUnbound, "patch both; define constant c = k;": api.ErrUnbound, "patch both; define constant c = area;": api.ErrUnbound, "patch both; define constant hidden = hidden;": api.OK, "patch half; define constant hidden = k;": api.OK,
	} {
		if u, e := Compile(source(t, text), nil, used); e != want || e != api.OK && !same(u, api.Unit{}) {
			t.Errorf("Compile(%s) = %+v, %d; expected %d", text, u, e, want)
		}
		if _, e := Compile(source(t, text), nil, nil); e != api.ErrUse {
			t.Errorf("Compile(%s) without interfaces = %d", text, e)
		}
	}
	full := shown(t, "library full; "+constants("k", 300)) // a patch has no Whole that could be too long
	if u := build(t, "patch full; "+constants("l", 300), full); len(u.Library.Defs) != 300 || !same(u.Interface, api.Interface{}) {
		t.Errorf("a patch of 300 constants has %d and %+v", len(u.Library.Defs), u.Interface)
	}
}

// P6.1
func TestCompileErrors(t *testing.T) {
	used := geometry(t)
	fine := macros(t, functions("f", 40))
	wrong := [][]api.Macro{{{}}, {{Name: "f"}}, append(fine[:3:3], fine[1]), append(fine[:40:40], macros(t, incText)...), {{Name: "if", Rules: fine[0].Rules}}}
	badly := source(t, "library a;")
	badly.Exports = []string{"let"}
	for _, l := range wrong {
		for _, s := range []api.Source{source(t, "library a;"), source(t, "library a; use none;"), source(t, "patch geo;"), source(t, "patch none;"), badly, {}, {Patch: true}} {
			if u, e := Compile(s, l, used); e != api.ErrInterface || !same(u, api.Unit{}) {
				t.Errorf("Compile(%+v) with wrong macros %s = %+v, %d", s, names(l), u, e)
			}
		}
	}
	for _, s := range []api.Source{source(t, "patch geo;"), source(t, "patch none;"), {Patch: true}} {
		if u, e := Compile(s, fine[:1], used); e != api.ErrInterface || !same(u, api.Unit{}) {
			t.Errorf("Compile of a patch with a macro = %+v, %d", u, e)
		}
	}
	if u, e := Compile(source(t, "library a;"), fine, used); e != api.OK || !same(u.Interface.Macros, fine) {
		t.Errorf("Compile with 40 macros = %+v, %d", u, e)
	}
	many := []api.Interface{shown(t, "library x; export "+listed("x", 16)+constants("x", 299)), shown(t, "library y; export "+listed("y", 16)+constants("y", 16))}
	for _, x := range []struct {
		s    api.Source
		want api.Errno
	}{
		// those of module.Resolve
		{api.Source{}, api.ErrForm}, {badly, api.ErrForm}, {api.Source{Name: "a", Main: make([]api.Expr, api.MaxNodes+1)}, api.ErrLong}, {source(t, "library a; use none;"), api.ErrUse}, {source(t, "library x; use x;"), api.ErrUse}, {source(t, "library a; use x, import: { k };"), api.ErrExport}, {source(t, "library a; use x, import: { x16 };"), api.ErrExport},
		{source(t, "library a; use x; define generic x0 (o);"), api.ErrClash}, {source(t, "library "+times(20, "a")+"; define constant "+times(40, "b")+" = 1;"), api.ErrQual}, {source(t, "library a; none"), api.ErrUnbound}, {source(t, "library a; use x; define method x0 (o) o end;"), api.ErrSort}, {source(t, "library a; export none;"), api.ErrExport}, {source(t, "library a; use x; export x16;"), api.ErrExport},
		// that of module.Whole
		{source(t, "library a; "+constants("k", 300)), api.OK}, {source(t, "library a; use x; "+constants("k", 284)), api.OK}, {source(t, "library a; use x; "+constants("k", 285)), api.ErrLong}, {source(t, "library a; use x; use y; "+constants("k", 269)), api.ErrLong}, {source(t, "library a; use x; export none; "+constants("k", 285)), api.ErrExport}, {source(t, "library a; use x, prefix: k; use y; "+constants("k", 268)), api.OK},
	} {
		if u, e := Compile(x.s, fine[:2], many); e != x.want || e != api.OK && !same(u, api.Unit{}) {
			t.Errorf("Compile(%.300s) = %.300s, %d; expected %d", whole(x.s), whole(u), e, x.want)
		}
	}
}

// listed is n names that begin alike, as an export clause has them.
func listed(name string, n int) string {
	return strings.ReplaceAll(numbered(n, name+"#"), " ", ", ") + "; "
}

// P6.1
func TestBuild(t *testing.T) {
	a, b := build(t, textA), api.Unit{}
	if want := "library a ; define generic size ( o ) ;"; !same(a.Library.Defs, build(t, want).Library.Defs) || a.Library.Defs[0].Generic.Name != "size@a" {
		t.Errorf("Build of A = %+v", a.Library)
	}
	if f := a.Interface.Face; len(f.Names) != 1 || f.Names[0].Name != "size" || names(a.Interface.Macros) != "inc" || a.Interface.Macros[0].Statement {
		t.Errorf("Build of A = %+v", a.Interface)
	}
	b = build(t, textB, a.Interface)
	plus := api.Expr{Kind: api.ExPrim, Name: "+", Args: []api.Expr{{Kind: api.ExVar, Name: "o"}, {Kind: api.ExNum, Num: 1}}}
	call := api.Expr{Kind: api.ExCall, Args: []api.Expr{{Kind: api.ExVar, Name: "size@a"}, {Kind: api.ExNum, Num: 3}}}
	if m := b.Library.Defs[0].Method; m.Generic != "size@a" || !same(m.Body, plus) || len(b.Library.Defs) != 1 || !same(b.Main, []api.Expr{call}) {
		t.Errorf("Build of B = %+v", b)
	}
	for _, x := range []struct {
		text string
		want api.Errno
	}{
		{textB, api.ErrUse}, {"library b; use a; use c; \"", api.ErrByte}, {"library b; none", api.ErrUnbound}, {"patch a; " + incText, api.ErrInterface}, {"patch none;", api.ErrUse}, {"patch none; " + incText, api.ErrInterface}, {"library b; export none;", api.ErrExport}, {"library b; use b;", api.ErrUse},
	} {
		where := api.Trouble{Layer: 5}
		if x.want == api.ErrByte {
			where = api.Trouble{Layer: 1, At: 25}
		}
		if u, got, e := Build(x.text, nil); e != x.want || got != where || !same(u, api.Unit{}) {
			t.Errorf("Build(%s) = %+v, %v, %d; expected %d, %v", x.text, u, got, e, x.want, where)
		}
	}
	full := shown(t, "library x; export k0; "+constants("k", 2))
	if u, where, e := Build("library y; use x; "+constants("l", 300), []api.Interface{full}); e != api.ErrLong || where != (api.Trouble{Layer: 5}) || !same(u, api.Unit{}) {
		t.Errorf("Build with a Whole that is too long = %v, %d", where, e)
	}
	used := append(geometry(t), a.Interface)
	for _, text := range []string{textB, "library b; use geo; use both; define constant c = inc (one); area (c)", "patch half; define constant c = k;"} {
		s, own, _, _ := Front(text, used)
		want, _ := Compile(s, own, used)
		if u, where, e := Build(text, used); !same(u, want) || e != api.OK || where != (api.Trouble{}) {
			t.Errorf("Build(%s) = %+v, %v, %d; expected %+v", text, u, where, e, want)
		}
	}
}
