package module

import (
	"regexp"
	"slices"
	"strconv"
	"strings"
	"testing"

	"skerry/api"
)

// errorsOf are the errors that the functions return for a source: Table and Missing, and Resolve, Faced and Whole.
func errorsOf(t *testing.T, s api.Source, faces []api.Face) (tabled, resolved api.Errno) {
	t.Helper()
	l, tabled := Table(s, faces)
	missing, again := Missing(s, faces)
	lib, main, resolved := Resolve(s, faces)
	f, faced := Faced(s, faces)
	w, whole := Whole(s, faces)
	if again != tabled || faced != resolved || whole != resolved && !(resolved == api.OK && whole == api.ErrLong) {
		t.Fatalf("Table %d, Missing %d; Resolve %d, Faced %d, Whole %d", tabled, again, resolved, faced, whole)
	}
	if tabled != api.OK && (l != nil || missing != nil) || resolved != api.OK && !(same(lib, api.Library{}) && main == nil && same(f, api.Face{}) && same(w, api.Face{})) {
		t.Fatalf("there are results beside the errors %d and %d", tabled, resolved)
	}
	return tabled, resolved
}

func TestErrors(t *testing.T) {
	long := func(n int) string { return times(n, "a") }
	faces := append(given(), face("wide", "1:"+long(39)+"=f@l 1:b=f@l"), face("slots", "1:"+long(33)+"=x@l 2:"+long(33)+"-setter=y@l 1:"+long(32)+"=x@l 2:"+long(32)+"-setter=y@l"))
	for _, x := range []struct {
		text string
		want api.Errno
	}{
		{"library b; use nothing;", api.ErrUse}, {"library b; use nothing, prefix: x;", api.ErrUse}, {"library b; use geo; use nothing, import: { x };", api.ErrUse}, {"library a; use a;", api.ErrUse}, {"library a; use geo; use a, import: { q };", api.ErrUse}, {"patch b;", api.ErrUse}, {"patch nothing; define constant k = 1;", api.ErrUse}, {"library nothing; use nothing;", api.ErrUse},
		{"library b; use geo, import: { volume };", api.ErrExport}, {"library b; use geo, import: { area, volume => area };", api.ErrExport}, {"library b; use geo, import: { r }; use two;", api.ErrExport}, {"library b; use none, import: { x };", api.ErrExport}, {"library b; use geo, import: { <object> };", api.ErrExport},
		{"library b; use wide, prefix: p;", api.OK}, {"library b; use wide, prefix: pp;", api.ErrQual}, {"library b; use wide, prefix: " + long(39) + ";", api.ErrQual}, {"library b; use geo, prefix: " + long(40) + ";", api.ErrQual}, {"library b; use none, prefix: " + long(40) + ";", api.OK}, {"library b; use wide, import: { b => " + long(40) + " };", api.OK},
		{"library b; define constant " + long(38) + " = 1;", api.OK}, {"library b; define constant " + long(39) + " = 1;", api.ErrQual}, {"library bc; define constant " + long(38) + " = 1;", api.ErrQual}, {"library b; define generic " + long(39) + " ();", api.ErrQual}, {"library b; define class " + long(39) + " (<object>) end;", api.ErrQual}, {"library b; define class " + long(38) + " (<object>) end;", api.OK}, {"library b; define method " + long(40) + " () 1 end;", api.ErrUnbound},
		{"library b; define class <c> (<object>) slot " + long(31) + "; end;", api.OK}, {"library b; define class <c> (<object>) slot " + long(32) + "; end;", api.ErrQual}, {"library b; define class <c> (<object>) slot " + long(34) + "; end;", api.ErrQual}, {"library b; define class <c> (<object>) virtual slot " + long(32) + "; end;", api.ErrQual}, {"library b; define class <c> (<object>) slot x; virtual slot " + long(39) + "; end;", api.ErrQual}, {"library b; use slots; define class <c> (<object>) slot " + long(33) + "; end;", api.ErrQual}, {"library b; use slots; define class <c> (<object>) slot " + long(32) + "; end;", api.ErrQual}, {"library b; define generic " + long(31) + " (o); define class <c> (<object>) slot " + long(31) + "; end;", api.OK}, {"library b; define generic " + long(32) + " (o); define class <c> (<object>) slot " + long(32) + "; end;", api.ErrQual},
		{"library b; use geo; define constant area = 1;", api.ErrClash}, {"library b; use two; define method r (x :: <y>) 1 end;", api.ErrUnbound}, {"library b; use two; z", api.ErrUnbound}, {"library b; use two; two", api.ErrUnbound}, {"library b; use two, prefix: p; r", api.ErrUnbound}, {"library b; use two, import: { r => x }; r", api.ErrUnbound}, {"library b; use two, import: { r }; f", api.ErrUnbound}, {"library b; use geo; area@geo", api.ErrUnbound}, {"library b; define constant k = 1; k@b", api.ErrUnbound}, {"library a; q", api.ErrUnbound},
		{"library b; define method f@0 () 1 end; define generic f ();", api.ErrUnbound}, {"library b; define class <c> (<object>@0) end;", api.ErrUnbound}, {"library b; define method <object> (x :: <object>@0) 1 end;", api.ErrSort}, {"library b; define constant k = instance?(1, <object>@0);", api.ErrUnbound},
		{"library b; use two; define class <d> (r) end;", api.ErrSort}, {"library b; use two; define class <d> (pi) end;", api.ErrSort}, {"library b; use two; define method <c> () 1 end;", api.ErrSort}, {"library b; use two; define method pi () 1 end;", api.ErrSort}, {"library b; use two; define sealed domain <c> ();", api.ErrSort}, {"library b; use two; define sealed domain pi ();", api.ErrSort}, {"library b; define class <d> (<d>) end; define method <d> (x :: <d>) 1 end;", api.ErrSort}, {"library b; define constant k = 1; define sealed domain k ();", api.ErrSort},
		{"library b; use two; define class <d> (<c>) slot f; end;", api.ErrSort}, {"library b; use two; define class <d> (<c>) slot pi; end;", api.ErrSort}, {"library b; use two; define class <d> (<c>) virtual slot pi; end;", api.ErrSort}, {"library b; use two; define class <d> (<c>) slot r; slot <c>; end;", api.ErrSort}, {"library b; use two, import: { r => x-setter }; define class <d> (<object>) slot x; end;", api.ErrSort}, {"library b; use two, import: { pi => x-setter }; define class <d> (<object>) slot x; end;", api.ErrSort}, {"library b; use two, import: { r => x-setter }; define class <d> (<object>) virtual slot x; end;", api.ErrSort}, {"library b; use two, import: { r, f => r-setter }; define class <d> (<object>) slot r; end;", api.OK},
		{"library b; define generic x (); define class <d> (<object>) slot x; end;", api.ErrSort}, {"library b; define class <d> (<object>) slot x; end; define generic x-setter (o);", api.ErrSort}, {"library b; define class <d> (<object>) virtual slot x; end; define generic x (v, o);", api.ErrSort}, {"library b; define generic x (o); define generic x-setter (v, o); define class <d> (<object>) slot x; end;", api.OK}, {"patch a; define class <e> (<object>) slot g; end;", api.ErrSort}, {"patch a; define class <e> (<object>) slot u; end;", api.ErrSort}, {"patch a; define class <e> (<object>) virtual slot one; end;", api.ErrSort}, {"patch a; define class <e> (<disc>) virtual slot q; slot s; end;", api.OK},
		{"library b; export x;", api.ErrExport}, {"library b; export <object>;", api.ErrExport}, {"library b; use two, prefix: p; export pf, f;", api.ErrExport}, {"library b; use geo; export area, <fault>;", api.ErrExport}, {"library b; export x; y", api.ErrUnbound}, {"library b; export f; define method f () 1 end;", api.ErrUnbound}, {"library b; export f; define generic f ();", api.OK}, {"library b; use two; export r, r-setter, x-setter; define class <d> (<c>) slot x; end;", api.OK},
	} {
		tabled, resolved := errorsOf(t, source(t, x.text), faces)
		want := x.want
		if want == api.ErrUnbound || want == api.ErrSort || strings.Contains(x.text, "export") {
			want = api.OK
		}
		if resolved != x.want || tabled != want {
			t.Errorf("%s: Resolve %d, Table %d; expected %d, %d", x.text, resolved, tabled, x.want, want)
		}
	}
}

// A source with two errors has the one that comes first.
func TestOrderOfErrors(t *testing.T) {
	define := func(s *api.Source, text string) {
		s.Defs = append(s.Defs, source(t, "library b; "+text).Defs...)
	}
	faults := []struct {
		e    api.Errno
		make func(*api.Source, *[]api.Face)
	}{
		{api.ErrForm, func(s *api.Source, _ *[]api.Face) { s.Exports = append(s.Exports, "let") }},
		{api.ErrFace, func(_ *api.Source, l *[]api.Face) { *l = append(*l, face("x@y", "")) }},
		{api.ErrUse, func(s *api.Source, _ *[]api.Face) { s.Uses = append(s.Uses, api.Use{Lib: "nothing", All: true}) }},
		{api.ErrExport, func(s *api.Source, _ *[]api.Face) {
			s.Uses = append(s.Uses, api.Use{Lib: "also", Names: []api.Rename{{From: "volume", To: "area"}}})
		}},
		{api.ErrQual, func(s *api.Source, _ *[]api.Face) { define(s, "define constant "+times(39, "k")+" = 1;") }},
		{api.ErrClash, func(s *api.Source, _ *[]api.Face) { define(s, "define constant area = 1;") }},
		{api.ErrLong, func(s *api.Source, l *[]api.Face) {
			lib, faces := long(2000 - 12)
			s.Uses, *l = slices.Insert(s.Uses, 0, lib.Uses...), slices.Insert(*l, 0, faces...)
		}},
		{api.ErrUnbound, func(s *api.Source, _ *[]api.Face) { define(s, "define method area (x :: <y>) 1 end;") }},
		{api.ErrSort, func(s *api.Source, _ *[]api.Face) { define(s, "define method <shape> (x :: <y>) 1 end;") }},
		{api.ErrUnbound, func(s *api.Source, _ *[]api.Face) { s.Main = append(s.Main, expr(t, "nothing")) }},
		{api.ErrExport, func(s *api.Source, _ *[]api.Face) { s.Exports = append(s.Exports, "nothing") }},
	}
	base := func() (api.Source, []api.Face) {
		return source(t, "library b; use geo; export area; define method area (x) x end;"), given()[:3]
	}
	s, faces := base()
	if _, e := errorsOf(t, s, faces); e != api.OK {
		t.Fatalf("Resolve = %d", e)
	}
	for i, first := range faults {
		s, faces := base()
		first.make(&s, &faces)
		if _, e := errorsOf(t, s, faces); e != first.e {
			t.Errorf("Resolve of a source with the fault %d = %d", i, e)
		}
		for j := i + 1; j < len(faults); j++ {
			s, faces := base()
			first.make(&s, &faces)
			faults[j].make(&s, &faces)
			if _, e := errorsOf(t, s, faces); e != first.e {
				t.Errorf("Resolve of a source with the faults %d and %d = %d; expected %d", i, j, e, first.e)
			}
		}
	}
}

// The names of a source in the order in which they stand: T are types or superclasses, G generic functions, S slots, V variables, with their numbers.
const standing = `library b; use geo; use odd; export X;
	define class <c> (T0, T1) slot S2 :: T3, init-value: area(V4, instance?(V6, T5), V7); virtual slot S8 :: type-union(T9, subclass(T10), type-union(T11), T12); class slot S13; end;
	define method G14 (a :: T15, b :: type-union(T16, limited(1, 2), T17)) => T18
		let handler T19 = V20; let c = V21; c(method (d :: T22, e :: subclass(T23)) instance?(V25, T24); d end, V26)
	end;
	define generic m (x);
	define sealed domain G27 (T28, type-union(T29), T30);
	define constant k = block (x) make(V31, k: V32, l: V33) cleanup if (V34) V35 else V36 end end;
	define abstract class <d> (T37) end;
	define method G38 () next-method(V39, - V40) | V41 & V42 end;
	begin local method f (x :: T43) V44 end; print(V45); V46(V47) end`

// stand is the text with what a function returns for the letter and the number of each name.
func stand(name func(letter string, n int) string) string {
	return regexp.MustCompile(`[TGSV]\d+`).ReplaceAllStringFunc(standing, func(word string) string {
		n, _ := strconv.Atoi(word[1:])
		return name(word[:1], n)
	})
}

func standsFor(letter string, n int, e api.Errno) (string, bool) {
	number := strconv.Itoa(n)
	switch {
	case letter == "T" && e == api.ErrUnbound:
		return "<n" + number + ">", true
	case letter != "S" && e == api.ErrUnbound:
		return "n" + number, true
	case letter == "T" && e == api.ErrSort:
		return "area", true
	case letter == "G" && e == api.ErrSort:
		return "<shape>", true
	case letter == "S" && e == api.ErrSort:
		return "odd" + number, true
	case letter == "T":
		return "<shape>", false
	case letter == "S":
		return "s" + number, false
	}
	return "area", false
}

func TestOrderOfNames(t *testing.T) {
	faces := append(given(), face("odd", numbered(50, "2:odd#")))
	right := strings.Replace(stand(func(letter string, n int) string {
		s, _ := standsFor(letter, n, api.OK)
		return s
	}), "X", "area", 1)
	if _, e := errorsOf(t, source(t, right), faces); e != api.OK {
		t.Fatalf("Resolve(%s) = %d", right, e)
	}
	tried := 0
	for i := range 48 {
		for want, other := range map[api.Errno]api.Errno{api.ErrUnbound: api.ErrSort, api.ErrSort: api.ErrUnbound} {
			wrong := false
			var missing []string
			text := stand(func(letter string, n int) string {
				e := api.OK
				switch {
				case n == i:
					e = want
				case n > i:
					e = other
				}
				s, is := standsFor(letter, n, e)
				wrong = wrong || n == i && is
				if is && e == api.ErrUnbound {
					missing = append(missing, s)
				}
				return s
			})
			if !wrong {
				continue
			}
			tried++
			s := source(t, strings.Replace(text, "X", "nothing", 1))
			if _, e := errorsOf(t, s, faces); e != want {
				t.Errorf("Resolve of a source with the name %d that is %d, and all behind that are %d, = %d", i, want, other, e)
			}
			slices.Sort(missing)
			if l, e := Missing(s, faces); e != api.OK || !slices.Equal(l, missing) {
				t.Errorf("Missing = %q, %d; expected %q", l, e, missing)
			}
		}
	}
	if tried != 2*21+2*3+21+3 {
		t.Errorf("%d sources were tried", tried)
	}
}

// What layer 4 refuses is refused with its error, by each function.
func TestSourcesThatAreNotRight(t *testing.T) {
	constant := func(e api.Expr) api.Source {
		return api.Source{Name: "b", Defs: []api.Def{{Kind: api.DfConst, Name: "k", Body: e}}}
	}
	round := api.Type{Kind: api.TyUnion, Args: make([]api.Type, 1)}
	round.Args[0] = round
	for i, x := range []struct {
		s    api.Source
		want api.Errno
	}{
		{api.Source{}, api.ErrForm}, {api.Source{Name: "B"}, api.ErrForm}, {api.Source{Name: "b", Exports: []string{"x", "x"}}, api.ErrForm}, {api.Source{Name: "b", Uses: []api.Use{{Lib: "geo"}}}, api.ErrForm}, {api.Source{Name: "geo", Patch: true, Exports: []string{"area"}}, api.ErrForm}, {api.Source{Name: "b", Defs: []api.Def{{}}}, api.ErrForm}, {api.Source{Name: "b", Defs: []api.Def{{Kind: 6}}}, api.ErrForm}, {api.Source{Name: "b", Defs: make([]api.Def, api.MaxDefs+1)}, api.ErrForm},
		{constant(api.Expr{}), api.ErrForm}, {constant(api.Expr{Kind: api.ExSlot, Name: "x", Args: []api.Expr{{Kind: api.ExNum}}}), api.ErrForm}, {constant(deep(api.MaxDeep + 1)), api.ErrDeep}, {constant(api.Expr{Kind: api.ExSeq, Args: make([]api.Expr, api.MaxNodes)}), api.ErrLong}, {constant(api.Expr{Kind: api.ExIs, Type: round, Args: []api.Expr{{Kind: api.ExNum}}}), api.ErrLong}, {api.Source{Name: "b", Main: make([]api.Expr, 2)}, api.ErrForm},
		{api.Source{Name: "b", Defs: []api.Def{{Kind: api.DfClass, Class: api.ClassDef{Name: "<c>", Supers: []string{"<object>"}, Slots: []api.Slot{{Name: "x", Type: api.Type{Kind: api.TyClass, Name: "<c>"}, Alloc: 5}}}}}}, api.ErrForm},
	} {
		for _, faces := range [][]api.Face{nil, given(), {{}}} {
			if tabled, resolved := errorsOf(t, x.s, faces); tabled != x.want || resolved != x.want {
				t.Errorf("the source %d is refused with %d and %d; expected %d", i, tabled, resolved, x.want)
			}
		}
	}
	s := constant(deepOf(api.MaxDeep, "k"))
	if _, e := errorsOf(t, s, nil); e != api.OK {
		t.Errorf("a source that is just right is refused with %d", e)
	}
}

// Lists without elements are the same as none.
func TestEmptyLists(t *testing.T) {
	s := api.Source{Name: "b", Uses: []api.Use{}, Exports: []string{}, Defs: []api.Def{}, Main: []api.Expr{}}
	l, main, e := Resolve(s, []api.Face{})
	if e != api.OK || !same(l, api.Library{Name: "b"}) || len(main) != 0 {
		t.Errorf("Resolve = %v, %v, %d", l, main, e)
	}
	if f, e := Faced(s, nil); e != api.OK || !same(f, api.Face{Lib: "b"}) {
		t.Errorf("Faced = %v, %d", f, e)
	}
	if f, e := Whole(s, nil); e != api.OK || !same(f, api.Face{Lib: "b"}) {
		t.Errorf("Whole = %v, %d", f, e)
	}
	if l, e := Missing(s, nil); e != api.OK || len(l) != 0 {
		t.Errorf("Missing = %v, %d", l, e)
	}
	full := source(t, "library b; use none; use geo; define class <c> (<object>) end; define method area () begin let x = area; x() end end;")
	emptied := source(t, "library b; use none; use geo; define class <c> (<object>) end; define method area () begin let x = area; x() end end;")
	emptied.Exports, emptied.Main, emptied.Uses[0].Names = []string{}, []api.Expr{}, []api.Rename{}
	emptied.Defs[0].Class.Slots, emptied.Defs[1].Method.Params, emptied.Defs[1].Method.Body.Keys = []api.Slot{}, []api.Param{}, []string{}
	if resolved(t, full, given()) != resolved(t, emptied, given()) {
		t.Errorf("Resolve = %s", resolved(t, emptied, given()))
	}
}

func TestMissing(t *testing.T) {
	for _, x := range []struct{ text, want string }{
		{"library b;", ""}, {"library b; use two; f(r)", ""}, {"library b; use two; f(z, y@0, y, z@0, a)", "a y z"}, {"library b; begin let y = y; y; z@0 end", "y z"}, {"library b; begin let y@0 = x; y@0; y end", "x y"}, {"library b; x@7(y@l)", "x@7 y@l"},
		{"library b; define class <d> (<b>, <a>) slot x :: <e>, init-value: z; virtual slot y :: <f>; end;", "<a> <b> <e> <f> z"}, {"library b; define method volume (x :: <y>) => <z> w end; define sealed domain size (<y>, type-union(<x>));", "<x> <y> <z> size volume w"},
		{"library b; begin let handler <a> = b; method (x :: subclass(<b>)) x; instance?(c, <c>) end end", "<a> <b> <c> b c"}, {"library b; use two; define method <c> (x :: f) z end; define class <d> (pi, <n>) slot f; end;", "<n> z"}, {"library b; export a, b; c", "c"}, {"patch a; define method h () r; q end;", "h r"}, {"library b; use geo, prefix: p; area(parea)", "area"},
	} {
		s, faces := source(t, x.text), given()
		got, e := Missing(s, faces)
		if e != api.OK || !slices.Equal(got, strings.Fields(x.want)) {
			t.Errorf("Missing(%s) = %q, %d; expected %q", x.text, got, e, x.want)
		}
		if !same(s, source(t, x.text)) || !same(faces, given()) {
			t.Errorf("Missing(%s) changes its arguments", x.text)
		}
	}
}
