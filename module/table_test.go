package module

import (
	"strings"
	"testing"

	"skerry/api"
)

// given is the faces with which the tests of this package resolve texts.
func given() []api.Face {
	return []api.Face{
		face("geo", "class:<shape> 1:area"),
		face("two", "1:r 2:r-setter const:pi class:<c> 2:f"),
		face("also", "1:area=area@geo const:size class:<shape>=<shape>@geo"),
		face("a", "class:<disc> 1:q 2:q-setter class:<shape>=<shape>@geo const:one 1:s=t@a 2:u=v-setter@a 3:g"),
		face("none", ""),
	}
}

func TestTable(t *testing.T) {
	for _, x := range []struct{ text, want string }{
		{"library b;", ""}, {"library geo;", ""}, {"library b; export <shape>; 1", ""},
		// use clauses
		{"library b; use none;", ""}, {"library b; use geo;", "class:<shape>=<shape>@geo 1:area=area@geo"}, {"library b; use two;", "1:r=r@two 2:r-setter=r-setter@two const:pi=pi@two class:<c>=<c>@two 2:f=f@two"},
		{"library b; use geo, prefix: g_;", "class:g_<shape>=<shape>@geo 1:g_area=area@geo"}, {"library b; use geo, prefix: <g>; use none, prefix: x;", "class:<g><shape>=<shape>@geo 1:<g>area=area@geo"}, {"library b; use geo, prefix: a/b;", "class:a/b<shape>=<shape>@geo 1:a/barea=area@geo"},
		{"library b; use geo, import: { area };", "1:area=area@geo"}, {"library b; use two, import: { f => <g>, r, pi => tau };", "2:<g>=f@two 1:r=r@two const:tau=pi@two"}, {"library b; use geo, import: { area, area => size, area };", "1:area=area@geo 1:size=area@geo"}, {"library b; use geo, import: { <shape> => area };", "class:area=<shape>@geo"},
		{"library b; use two, import: { f }; use geo;", "2:f=f@two class:<shape>=<shape>@geo 1:area=area@geo"}, {"library b; use geo; use two, import: { f };", "class:<shape>=<shape>@geo 1:area=area@geo 2:f=f@two"},
		{"library b; use geo; use also;", "class:<shape>=<shape>@geo 1:area=area@geo const:size=size@also"}, {"library b; use also; use geo;", "1:area=area@geo const:size=size@also class:<shape>=<shape>@geo"}, {"library b; use a, prefix: a; use geo, import: { <shape> => a<shape> };", "class:a<disc>=<disc>@a 1:aq=q@a 2:aq-setter=q-setter@a class:a<shape>=<shape>@geo const:aone=one@a 1:as=t@a 2:au=v-setter@a 3:ag=g@a"},
		// definitions
		{"library b; define constant k = k; define generic f (x, y); define sealed generic g (); define class <c> (<c>) end; define abstract sealed class c (<c>) end;", "const:k=k@b 2:f=f@b 0:g=g@b class:<c>=<c>@b class:c=c@b"}, {"library b; define method f () 1 end; define sealed domain g (); define sealed method f (x :: <c>) 1 end;", ""},
		{"library b; define class <d> (<c>) slot x; slot y; end;", "class:<d>=<d>@b 1:x=x@b 2:x-setter=x-setter@b 1:y=y@b 2:y-setter=y-setter@b"}, {"library b; define class <d> (<c>) class slot x; virtual slot y; each-subclass slot z; end;", "class:<d>=<d>@b 1:x=x@b 2:x-setter=x-setter@b 1:y=y@b 2:y-setter=y-setter@b 1:z=z@b 2:z-setter=z-setter@b"},
		{"library b; define class <d> (<c>) slot x; end; define class <e> (<c>) slot y; virtual slot x; end; define class <f> (<c>) slot x; end;", "class:<d>=<d>@b 1:x=x@b 2:x-setter=x-setter@b class:<e>=<e>@b 1:y=y@b 2:y-setter=y-setter@b class:<f>=<f>@b"},
		{"library b; define class <d> (<c>) slot x; end; define generic x (o);", "class:<d>=<d>@b 2:x-setter=x-setter@b 1:x=x@b"}, {"library b; define generic x-setter (v, o); define class <d> (<c>) slot x; end;", "2:x-setter=x-setter@b class:<d>=<d>@b 1:x=x@b"}, {"library b; define class <d> (<c>) slot x; slot y; end; define generic x-setter (); define generic y (a, b, c);", "class:<d>=<d>@b 1:x=x@b 2:y-setter=y-setter@b 0:x-setter=x-setter@b 3:y=y@b"},
		{"library b; use two; define class <d> (<c>) slot r; slot f; slot pi; slot r-setter; end;", "1:r=r@two 2:r-setter=r-setter@two const:pi=pi@two class:<c>=<c>@two 2:f=f@two class:<d>=<d>@b 2:f-setter=f-setter@b 2:pi-setter=pi-setter@b 2:r-setter-setter=r-setter-setter@b"}, {"library b; use two, prefix: x; define class <d> (<c>) slot r; slot xr; end;", "1:xr=r@two 2:xr-setter=r-setter@two const:xpi=pi@two class:x<c>=<c>@two 2:xf=f@two class:<d>=<d>@b 1:r=r@b 2:r-setter=r-setter@b"}, {"library b; use two, import: { r, f => x, <c> => x-setter }; define class <d> (<c>) slot r; slot x; end;", "1:r=r@two 2:x=f@two class:x-setter=<c>@two class:<d>=<d>@b 2:r-setter=r-setter@b"},
		{"library b; define generic x (o); define generic x (o);", "1:x=x@b"}, {"library b; define class <d> (<c>) end; define class <d> (<e>) slot x; end; define constant k = 1; define constant k = 2;", "class:<d>=<d>@b 1:x=x@b 2:x-setter=x-setter@b const:k=k@b"},
		// patches
		{"patch none;", ""}, {"patch geo;", "class:<shape>=<shape>@geo 1:area=area@geo"}, {"patch a;", "class:<disc>=<disc>@a 1:q=q@a 2:q-setter=q-setter@a class:<shape>=<shape>@geo const:one=one@a 1:s=t@a 2:u=v-setter@a 3:g=g@a"},
		{"patch geo; define class <shape> (<object>) slot x; end; define class <new> (<shape>) slot area; slot x; end; define generic area (s); define constant k = 1;", "class:<shape>=<shape>@geo 1:area=area@geo 1:x=x@geo 2:x-setter=x-setter@geo class:<new>=<new>@geo 2:area-setter=area-setter@geo const:k=k@geo"},
		{"patch a; define class <disc> (<shape>) slot q; slot s; slot t; slot v; end; define constant one = 2;", "class:<disc>=<disc>@a 1:q=q@a 2:q-setter=q-setter@a class:<shape>=<shape>@geo const:one=one@a 1:s=t@a 2:u=v-setter@a 3:g=g@a 2:s-setter=s-setter@a 1:t=t@a 2:t-setter=t-setter@a 1:v=v@a 2:v-setter=v-setter@a"},
	} {
		s, faces := source(t, x.text), given()
		got, e := Table(s, faces)
		if want := strings.TrimSuffix(predefined+" "+x.want, " "); e != api.OK || showEntries(got) != want {
			t.Errorf("Table(%s) = %s, %d; expected %s", x.text, showEntries(got), e, want)
		}
		if !apart(got, s, faces) || !same(s, source(t, x.text)) || !same(faces, given()) {
			t.Errorf("Table(%s) shares memory, or changes its arguments", x.text)
		}
	}
}

// Two entries with a name that are not the same clash, wherever they come from.
func TestClash(t *testing.T) {
	faces := append(given(), face("plain", "class:<object> 1:area 2:x"))
	for _, text := range []string{
		"library b; use plain;", "library b; use plain, import: { area => <fault> };", "library b; define class <object> (<c>) end;", "library b; define constant <integer> = 1;", "library b; define generic <class> (o);", "library b; define class <c> (<d>) slot <restart>; end;", "library b; define class <c> (<d>) virtual slot <restart>; end;", "patch plain;", "library b; use geo, import: { <shape> => <object> };",
		"library b; use geo; use plain, import: { area };", "library b; use geo; use two, import: { pi => area };", "library b; use geo, import: { <shape> => x, area => x };", "library b; use geo, prefix: x; use two, import: { f => xarea };", "library b; use geo; use also, import: { size => area };", "library b; use plain, import: { x }; use two, import: { f => x };",
		"library b; use geo; define constant area = 1;", "library b; use geo; define generic area (s);", "library b; use geo; define class area (<c>) end;", "library b; use geo; define class <shape> (<c>) end;", "library b; use geo, import: { area => b }; define constant b = 1;",
		"library b; define constant x = 1; define generic x ();", "library b; define generic x (); define generic x (a);", "library b; define class x (<c>) end; define constant x = 1;", "library b; define class x (<c>) end; define generic x (o);", "library b; define class x (<c>) slot x; end;", "library b; define class x-setter (<c>) slot x; end;", "library b; define class <c> (<d>) slot x; end; define constant x = 1;", "library b; define constant x-setter = 1; define class <c> (<d>) virtual slot x; end;", "library b; define class <c> (<d>) slot x; slot x-setter; end;", "library b; define class <c> (<d>) slot x; end; define class <d> (<d>) slot x-setter; end;",
		"patch a; define constant q = 1;", "patch a; define generic q (a, b);", "patch a; define generic s (o);", "patch a; define class <shape> (<object>) end;", "patch a; define class one (<object>) end;", "patch a; define class <disc> (<object>) slot x; end; define constant x = 1;", "patch geo; define constant area = 1;",
	} {
		if got, e := Table(source(t, text), faces); e != api.ErrClash || got != nil {
			t.Errorf("Table(%s) = %s, %d", text, showEntries(got), e)
		}
	}
}

// long is a library that uses faces with n names in all.
func long(n int) (api.Source, []api.Face) {
	s := api.Source{Name: "b"}
	var faces []api.Face
	for i := 0; n > 0; i++ {
		lib := "l" + string(rune('0'+i))
		part := min(n, api.MaxDefs)
		faces = append(faces, face(lib, numbered(part, "1:"+lib+"-#")))
		s.Uses = append(s.Uses, api.Use{Lib: lib, All: true})
		n -= part
	}
	return s, faces
}

func TestLongTable(t *testing.T) {
	limit := 2000 - len(strings.Fields(predefined))
	for n, want := range map[int]api.Errno{limit: api.OK, limit + 1: api.ErrLong, api.MaxLibs * api.MaxDefs: api.ErrLong} {
		s, faces := long(n)
		l, e := Table(s, faces)
		if e != want || e == api.OK && len(l) != 2000 || e != api.OK && l != nil {
			t.Errorf("Table with %d names = %d entries, %d", n, len(l), e)
		}
		_, _, e = Resolve(s, faces)
		if _, missing := Missing(s, faces); e != want || missing != want {
			t.Errorf("Resolve with %d names = %d, Missing %d", n, e, missing)
		}
		if _, e := Faced(s, faces); e != want {
			t.Errorf("Faced with %d names = %d", n, e)
		}
		if w, e := Whole(s, faces); e != api.ErrLong || !same(w, api.Face{}) {
			t.Errorf("Whole with %d names = %d", n, e)
		}
	}
	s, faces := long(limit)
	s.Uses[0] = api.Use{Lib: "l0", Names: []api.Rename{{From: "l0-0", To: "l1-0"}}}
	if _, e := Table(s, faces); e != api.ErrClash {
		t.Errorf("Table of two names that clash = %d", e)
	}
	s, faces = long(limit)
	faces[1].Names[7] = faces[0].Names[7] // an entry that is there already does not count
	s.Defs = source(t, "library b; define constant k = 1;").Defs
	if l, e := Table(s, faces); e != api.OK || len(l) != 2000 {
		t.Errorf("Table with an entry twice = %d entries, %d", len(l), e)
	}
	s.Defs = source(t, "library b; define class <c> (<c>) slot x; end;").Defs
	if _, e := Table(s, faces); e != api.ErrLong {
		t.Errorf("Table with three entries of a class = %d", e)
	}
}

func TestWhole(t *testing.T) {
	for _, x := range []struct{ text, want string }{
		{"library b;", ""}, {"library b; use none; 1", ""}, {"library b; use geo; export area;", "class:<shape>=<shape>@geo 1:area=area@geo"}, {"library b; use geo, import: { <shape> => x }; define class <c> (x) virtual slot y; slot z; end; define generic z (o); define constant k = 1;", "class:x=<shape>@geo class:<c>=<c>@b 1:y=y@b 2:y-setter=y-setter@b 2:z-setter=z-setter@b 1:z=z@b const:k=k@b"},
		{"library b; use geo, prefix: me;", "class:me<shape>=<shape>@geo 1:mearea=area@geo"}, {"patch geo; define constant k = area;", "class:<shape>=<shape>@geo 1:area=area@geo const:k=k@geo"},
	} {
		s, faces := source(t, x.text), given()
		got, e := Whole(s, faces)
		if e != api.OK || got.Lib != s.Name || showEntries(got.Names) != x.want {
			t.Errorf("Whole(%s) = %s %s, %d; expected %s", x.text, got.Lib, showEntries(got.Names), e, x.want)
		}
		if !apart(got, s, faces) {
			t.Errorf("Whole(%s) shares memory", x.text)
		}
	}
	for n, want := range map[int]api.Errno{api.MaxDefs - 3: api.OK, api.MaxDefs - 2: api.ErrLong} {
		s, faces := long(n)
		s.Defs = source(t, "library b; define class <c> (<object>) slot x; end;").Defs
		if got, e := Whole(s, faces); e != want || e == api.OK && len(got.Names) != api.MaxDefs || e != api.OK && !same(got, api.Face{}) {
			t.Errorf("Whole with %d entries = %d, %d", n+3, len(got.Names), e)
		}
		if _, e := Faced(s, faces); e != api.OK {
			t.Errorf("Faced with %d entries = %d", n+3, e)
		}
		s.Exports = []string{"y"}
		if _, e := Whole(s, faces); e != api.ErrExport {
			t.Errorf("Whole of a source with an error = %d", e)
		}
	}
}

func TestFaced(t *testing.T) {
	for _, x := range []struct{ text, want string }{
		{"library b; use geo; define constant k = 1;", ""}, {"library b; use geo; export area;", "1:area=area@geo"}, {"library b; use two, prefix: x; use geo, import: { area => size }; export xpi, size, x<c>;", "const:xpi=pi@two 1:size=area@geo class:x<c>=<c>@two"},
		{"library b; export k, y-setter, <c>, z-setter, z, y, x; define constant k = 1; define generic z (o); define class <c> (<object>) virtual slot y; slot z; slot x; end;", "const:k=k@b 2:y-setter=y-setter@b class:<c>=<c>@b 2:z-setter=z-setter@b 1:z=z@b 1:y=y@b 1:x=x@b"}, {"patch geo; define constant k = 1;", ""},
	} {
		s, faces := source(t, x.text), given()
		got, e := Faced(s, faces)
		if e != api.OK || got.Lib != s.Name || showEntries(got.Names) != x.want {
			t.Errorf("Faced(%s) = %s %s, %d; expected %s", x.text, got.Lib, showEntries(got.Names), e, x.want)
		}
		if !apart(got, s, faces) {
			t.Errorf("Faced(%s) shares memory", x.text)
		}
	}
}
