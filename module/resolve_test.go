package module

import (
	"strings"
	"testing"

	"skerry/api"
	"skerry/lists"
	"skerry/syntax"
)

// resolved is the library of a source and its main expression, shown.
func resolved(t *testing.T, s api.Source, faces []api.Face) string {
	t.Helper()
	l, main, e := Resolve(s, faces)
	if e != api.OK {
		t.Fatalf("Resolve = %d", e)
	}
	return showLibrary(l, main)
}

// accessors are the two methods of a slot, shown.
func accessors(class, typ, getter, setter string) string {
	return strings.NewReplacer("C", class, "T", typ, "G", getter, "S", setter).Replace(
		"method G (object :: C) => T get G(object) / method S (value :: T, object :: C) => T set G(object, value)")
}

func TestResolve(t *testing.T) {
	for _, x := range []struct{ text, want string }{
		{"library b;", ""}, {"library b; use geo; use none; use two, import: { pi };", ""}, {"patch a;", ""}, {"library b; 1", "1"}, {"library b; use two; f(pi, f@0)", "f@two(pi@two, f@two)"},
		{"library b; define constant k = begin let k = k; k(k@0) end; k", "constant k@b begin let k = k@b; k(k@b) end / k@b"}, {"library b; use two, prefix: x; define constant k = xpi | <object>;", "constant k@b pi@two | <object>"},
		{"library b; define generic f (x, y); define sealed generic <g> (); f(<g>)", "generic f@b 2 / generic <g>@b 0 sealed / f@b(<g>@b)"}, {"library b; define generic f (x); define generic f (y);", "generic f@b 1 / generic f@b 1"},
		{"library b; use two; define method f () 1 end; define method f (f, x :: <c>, y :: type-union(subclass(<c>), <object>)) => <c> f(x, y@0, pi, f@0) end; define generic y ();", "method f@two () => <object> 1 / method f@two (f :: <object>, x :: <c>@two, y :: type-union(subclass(<c>@two), <object>)) => <c>@two f(x, y@b, pi@two, f@two) / generic y@b 0"},
		{"library b; use two; define sealed domain f (<c>, limited(1, 2), type-union(<c>)); define sealed domain r (); define sealed method f (<c> :: <c>) <c> end;", "domain f@two (<c>@two, limited(1, 2), type-union(<c>@two)) / domain r@two () / method f@two (<c> :: <c>@two) => <object> <c> / domain f@two (<c>@two)"},
		{"library b; use geo, import: { <shape> => x, area => y }; define abstract class <d> (x, <object>) end; define sealed class <e> (<d>, <e>) end; define method y (x :: x) y(x) end;", "class <d>@b [<shape>@geo <object>] abstract [] / class <e>@b [<d>@b <e>@b] sealed [] / method area@geo (x :: <shape>@geo) => <object> area@geo(x)"},
		// slots
		{"library b; use two; define class <d> (<c>) slot x; end;", "generic x@b 1 / generic x-setter@b 2 / class <d>@b [<c>@two] [x@b :: <object>] / " + accessors("<d>@b", "<object>", "x@b", "x-setter@b")},
		{"library b; use two; define class <d> (<c>) slot object :: type-union(<c>, <d>), init-value: object(value, value@0), init-keyword: k:; class slot value; each-subclass slot y :: <d>; end;", "generic object@b 1 / generic object-setter@b 2 / generic value@b 1 / generic value-setter@b 2 / generic y@b 1 / generic y-setter@b 2 / class <d>@b [<c>@two] [object@b :: type-union(<c>@two, <d>@b) key k init object@b(value@b, value@b), value@b :: <object> alloc 2, y@b :: <d>@b alloc 3] / " +
			accessors("<d>@b", "type-union(<c>@two, <d>@b)", "object@b", "object-setter@b") + " / " + accessors("<d>@b", "<object>", "value@b", "value-setter@b") + " / " + accessors("<d>@b", "<d>@b", "y@b", "y-setter@b")},
		{"library b; define class <d> (<object>) virtual slot x :: <d>; slot y; virtual slot z; end; x(y)", "generic x@b 1 / generic x-setter@b 2 / generic y@b 1 / generic y-setter@b 2 / generic z@b 1 / generic z-setter@b 2 / class <d>@b [<object>] [y@b :: <object>] / " + accessors("<d>@b", "<object>", "y@b", "y-setter@b") + " / x@b(y@b)"},
		{"library b; define class <d> (<object>) slot x; end; define class <e> (<d>) slot y; slot x :: <d>; end; define class <f> (<d>) virtual slot y; end;", "generic x@b 1 / generic x-setter@b 2 / class <d>@b [<object>] [x@b :: <object>] / " + accessors("<d>@b", "<object>", "x@b", "x-setter@b") + " / generic y@b 1 / generic y-setter@b 2 / class <e>@b [<d>@b] [y@b :: <object>, x@b :: <d>@b] / " + accessors("<e>@b", "<object>", "y@b", "y-setter@b") + " / " + accessors("<e>@b", "<d>@b", "x@b", "x-setter@b") + " / class <f>@b [<d>@b] []"},
		{"library b; define class <d> (<object>) virtual slot x; end; define class <e> (<d>) slot x; end;", "generic x@b 1 / generic x-setter@b 2 / class <d>@b [<object>] [] / class <e>@b [<d>@b] [x@b :: <object>] / " + accessors("<e>@b", "<object>", "x@b", "x-setter@b")},
		{"library b; define class <d> (<object>) slot x; slot y; end; define generic x (o); define sealed generic y-setter (v, o);", "generic x-setter@b 2 / generic y@b 1 / class <d>@b [<object>] [x@b :: <object>, y@b :: <object>] / " + accessors("<d>@b", "<object>", "x@b", "x-setter@b") + " / " + accessors("<d>@b", "<object>", "y@b", "y-setter@b") + " / generic x@b 1 / generic y-setter@b 2 sealed"},
		{"library b; use two; use geo, import: { area => s }; define class <d> (<c>) slot r; slot s; end;", "generic s-setter@b 2 / class <d>@b [<c>@two] [r@two :: <object>, area@geo :: <object>] / " + accessors("<d>@b", "<object>", "r@two", "r-setter@two") + " / " + accessors("<d>@b", "<object>", "area@geo", "s-setter@b")},
		{"library b; use two, import: { f => x-setter }; define class <d> (<object>) slot x; end;", "generic x@b 1 / class <d>@b [<object>] [x@b :: <object>] / " + accessors("<d>@b", "<object>", "x@b", "f@two")},
		{"library b; define class <d> (<object>) slot x; end; define class <d> (<object>) slot x; end;", "generic x@b 1 / generic x-setter@b 2 / class <d>@b [<object>] [x@b :: <object>] / " + accessors("<d>@b", "<object>", "x@b", "x-setter@b") + " / class <d>@b [<object>] [x@b :: <object>] / " + accessors("<d>@b", "<object>", "x@b", "x-setter@b")},
		// patches
		{"patch a; define class <disc> (<shape>) slot q; slot new :: <disc>; end; define class <ring> (<disc>) slot q; end; define method g (x) one end; define constant one = 2;", "generic new@a 1 / generic new-setter@a 2 / class <disc>@a [<shape>@geo] [q@a :: <object>, new@a :: <disc>@a] / " + accessors("<disc>@a", "<object>", "q@a", "q-setter@a") + " / " + accessors("<disc>@a", "<disc>@a", "new@a", "new-setter@a") + " / class <ring>@a [<disc>@a] [q@a :: <object>] / " + accessors("<ring>@a", "<object>", "q@a", "q-setter@a") + " / method g@a (x :: <object>) => <object> one@a / constant one@a 2"},
		{"patch a; define class <disc> (<object>) slot s; end;", "generic s-setter@a 2 / class <disc>@a [<object>] [t@a :: <object>] / " + accessors("<disc>@a", "<object>", "t@a", "s-setter@a")},
		{"patch a; define class <disc> (<object>) slot t; slot v; end;", "generic t-setter@a 2 / generic v@a 1 / class <disc>@a [<object>] [t@a :: <object>, v@a :: <object>] / " + accessors("<disc>@a", "<object>", "t@a", "t-setter@a") + " / " + accessors("<disc>@a", "<object>", "v@a", "v-setter@a")},
		{"patch geo; define generic area (s); define sealed domain area (<shape>);", "generic area@geo 1 / domain area@geo (<shape>@geo)"},
	} {
		s, faces := source(t, x.text), given()
		l, main, e := Resolve(s, faces)
		if got := showLibrary(l, main); e != api.OK || got != x.want {
			t.Errorf("Resolve(%s) = %s, %d; expected %s", x.text, got, e, x.want)
		}
		uses := lists.Each(s.Uses, func(u api.Use) string { return u.Lib })
		if l.Name != s.Name || !same(l.Uses, uses) {
			t.Errorf("Resolve(%s) is the library %s that uses %v", x.text, l.Name, l.Uses)
		}
		if !apart(l, main, s, faces) || !same(s, source(t, x.text)) || !same(faces, given()) {
			t.Errorf("Resolve(%s) shares memory, or changes its arguments", x.text)
		}
	}
}

// What is resolved is the same as what is written with full names, but for what cannot be written: that which accessors do.
func TestResolvedExpressions(t *testing.T) {
	for _, x := range []struct{ text, want string }{
		{"begin let f = f; f(r, r@0) end", "begin let f = f@two; f(r@two, r@two) end"}, {"begin let r@0 = r@0; r@0; r end", "begin let r@0 = r@two; r@0; r@two end"}, {"begin let r@two = pi; r@two; r end", "begin let r@two = pi@two; r@two; r@two end"}, {"begin let <object> = pi; <object>; <fault> end", "begin let <object> = pi@two; <object>; <fault> end"},
		{"begin local method r (x, y :: <c>) r(x, y, f) end; r(x@0) end", "begin local method r(x, y :: <c>@two) r(x, y, f@two) end; r(x@b) end"}, {"method (<c> :: <c>) instance?(<c>, <c>) end", "method (<c> :: <c>@two) instance?(<c>, <c>@two) end"}, {"block (f) f(r) cleanup f(r) end", "block (f) f(r@two) cleanup f@two(r@two) end"}, {"begin let handler <c> = f; r | pi end", "begin let handler <c>@two = f@two; r@two | pi@two end"},
		{"make(<c>, f: f, r: load-patch(2))", "make(<c>@two, f: f@two, r: load-patch(2))"}, {"pi.r := x.f", "r-setter@two(f@two(x@b), pi@two)"}, {"next-method(pi, - pi, ~ pi & pi)", "next-method(pi@two, - pi@two, ~ pi@two & pi@two)"}, {"print(signal(object-class(quotient(pi, 2))))", "print(signal(object-class(quotient(pi@two, 2))))"},
	} {
		want := show(expr(t, x.want))
		for text, shown := range map[string]string{"K": "K", "define constant k = K; 1": "constant k@b K / 1", "define method x () K end;": "method x@b () => <object> K", "define class <d> (<object>) virtual slot z; class slot x, init-value: K; end;": "generic z@b 1 / generic z-setter@b 2 / class <d>@b [<object>] [x@b :: <object> alloc 2 init K] / " + accessors("<d>@b", "<object>", "x@b", "x-setter@b")} {
			text = "library b; use two; define generic x (o); define generic x-setter (v, o); " + strings.ReplaceAll(text, "K", x.text)
			shown = "generic x@b 1 / generic x-setter@b 2 / " + strings.ReplaceAll(shown, "K", want)
			if got := resolved(t, source(t, text), given()); got != shown {
				t.Errorf("Resolve(%s) = %s; expected %s", text, got, shown)
			}
		}
	}
}

// The accessors are those of layer 4, of which the names are resolved one by one.
func TestAccessorTypes(t *testing.T) {
	s := source(t, "library b; use two, prefix: x; define class <d> (x<c>) slot xr :: type-union(x<c>, subclass(<d>), limited(1, 2)); end;")
	l, _, e := Resolve(s, given())
	if e != api.OK || len(l.Defs) != 3 {
		t.Fatalf("Resolve = %v, %d", l, e)
	}
	if want := syntax.Accessors(l.Defs[0].Class); showDef(l.Defs[1]) != showDef(want[0]) || showDef(l.Defs[2]) != showDef(want[1]) {
		t.Errorf("Resolve = %s; expected the methods of %s", showLibrary(l, nil), showDef(l.Defs[0]))
	}
}

// The examples of the chapter.
func TestExamples(t *testing.T) {
	geo := []api.Face{face("geo", "class:<shape> 1:area")}
	s := source(t, "library a; use geo; define class <disc> (<shape>) slot r; end; define method area (d :: <disc>) r(d) end;")
	if got := resolved(t, s, geo); got != "generic r@a 1 / generic r-setter@a 2 / class <disc>@a [<shape>@geo] [r@a :: <object>] / "+accessors("<disc>@a", "<object>", "r@a", "r-setter@a")+" / method area@geo (d :: <disc>@a) => <object> r@a(d)" {
		t.Errorf("Resolve = %s", got)
	}
	s = source(t, "library a; use geo, prefix: g_; define class <d> (g_<shape>) end; define method g_area (d :: <d>) 1 end;")
	if got := resolved(t, s, geo); got != "class <d>@a [<shape>@geo] [] / method area@geo (d :: <d>@a) => <object> 1" {
		t.Errorf("Resolve = %s", got)
	}
	if got := resolved(t, source(t, "library a; use geo, import: { area => size }; size"), geo); got != "area@geo" {
		t.Errorf("Resolve = %s", got)
	}
	if got := resolved(t, source(t, "library a; use geo, import: { area => x }; begin let x = 1; x@0 end"), geo); got != show(expr(t, "begin let x = 1; area@geo end")) {
		t.Errorf("Resolve = %s", got)
	}
	for text, want := range map[string]api.Errno{
		"library a; use geo; define constant area = 1;": api.ErrClash, "library a; define method volume () 1 end;": api.ErrUnbound, "library a; use geo; define method <shape> () 1 end;": api.ErrSort,
		"library a; use geo, import: { volume };": api.ErrExport, "library a; use lib;": api.ErrUse,
	} {
		if l, main, e := Resolve(source(t, text), geo); e != want || !same(l, api.Library{}) || main != nil {
			t.Errorf("Resolve(%s) = %v, %v, %d", text, l, main, e)
		}
	}
	if l, e := Missing(source(t, "library a; define method volume () 1 end;"), geo); e != api.OK || !same(l, []string{"volume"}) {
		t.Errorf("Missing = %v, %d", l, e)
	}
}
