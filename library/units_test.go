package library

import (
	"strings"
	"testing"

	"skerry/api"
	"skerry/lists"
)

// bare is a unit that is written as its name, with ! behind it if it is a patch and * if it has a main expression, and a colon and the names of what it uses, against whose plain interfaces it was compiled.
func bare(text string) api.Unit {
	name, uses, _ := strings.Cut(text, ":")
	u := api.Unit{Patch: strings.HasSuffix(name, "!"), Library: api.Library{Name: strings.TrimRight(name, "!*"), Uses: strings.Fields(uses)}}
	if strings.HasSuffix(name, "*") {
		u.Main = []api.Expr{{Kind: api.ExNum, Num: len(text)}}
	}
	if u.Patch {
		u.Against = []api.Interface{plain(u.Library.Name)}
		return u
	}
	u.Interface = plain(u.Library.Name)
	u.Against = lists.Each(lists.Firsts(u.Library.Uses, lists.Itself), plain)
	return u
}

// bares is units that are written with blanks and / between them.
func bares(text string) []api.Unit {
	return lists.Each(strings.FieldsFunc(text, func(r rune) bool { return r == '/' }), func(s string) api.Unit { return bare(strings.TrimSpace(s)) })
}

// named is a unit as one with another name has it.
func named(u api.Unit, name string) api.Unit {
	u.Library.Name, u.Interface = name, plain(name)
	return u
}

// P6.1: the units that are not valid, each of which differs in one thing from one that is.
func wrongUnits(t *testing.T) map[string]api.Unit {
	library, patch := bare("z*: a"), bare("z!")
	l := map[string]api.Unit{"nothing": {}, "a patch without a name": {Patch: true}, "a name alone": {Library: api.Library{Name: "z"}}}
	for what, change := range map[string]func(u *api.Unit){
		"no name":                    func(u *api.Unit) { u.Library.Name = "" },
		"no name anywhere":           func(u *api.Unit) { u.Library.Name, u.Interface = "", plain("") },
		"two main expressions":       func(u *api.Unit) { u.Main = append(u.Main, u.Main[0]) },
		"a zero Interface":           func(u *api.Unit) { u.Interface = api.Interface{} },
		"an Interface of another":    func(u *api.Unit) { u.Interface = plain("a") },
		"eleven interfaces":          func(u *api.Unit) { u.Against = plains(11) },
		"twice the same in Against":  func(u *api.Unit) { u.Against = append(u.Against, plain("a")) },
		"a zero interface, Against":  func(u *api.Unit) { u.Against = append(u.Against, api.Interface{}) },
		"is a patch, with Interface": func(u *api.Unit) { u.Patch, u.Main, u.Library.Uses = true, nil, nil },
		"is a patch, with Main":      func(u *api.Unit) { u.Patch, u.Interface, u.Library.Uses = true, api.Interface{}, nil },
		"is a patch, with Uses":      func(u *api.Unit) { u.Patch, u.Interface, u.Main = true, api.Interface{}, nil },
	} {
		u := library
		change(&u)
		l[what] = u
	}
	for what, change := range map[string]func(u *api.Unit){
		"a patch without name":         func(u *api.Unit) { u.Library.Name = "" },
		"a patch with Main":            func(u *api.Unit) { u.Main = library.Main },
		"a patch with Uses":            func(u *api.Unit) { u.Library.Uses = []string{"z"} },
		"a patch with the Lib of Face": func(u *api.Unit) { u.Interface.Face.Lib = "z" },
		"a patch with that of Whole":   func(u *api.Unit) { u.Interface.Whole.Lib = "z" },
		"a patch with names":           func(u *api.Unit) { u.Interface.Face.Names = []api.Export{{}} },
		"a patch with names in Whole":  func(u *api.Unit) { u.Interface.Whole.Names = []api.Export{{}} },
		"a patch with macros":          func(u *api.Unit) { u.Interface.Macros = []api.Macro{{}} },
		"a patch with eleven":          func(u *api.Unit) { u.Against = plains(11) },
		"a patch, twice Against":       func(u *api.Unit) { u.Against = append(u.Against, plain("z")) },
		"no patch":                     func(u *api.Unit) { u.Patch = false },
	} {
		u := patch
		change(&u)
		l[what] = u
	}
	for what, i := range wrongInterfaces(t) {
		u := library
		u.Interface, u.Library.Name = i, "r"
		l["the interface: "+what] = u
		patch := patch
		patch.Against = []api.Interface{plain("z"), i}
		l["Against: "+what] = patch
	}
	return l
}

// P6.1
func TestCheckUnit(t *testing.T) {
	odd := bare("z: a a z b")
	odd.Library.Defs = []api.Def{{Kind: 9, Name: "", Body: api.Expr{Kind: -1}}}
	odd.Against = plains(10)
	patch := bare("z!")
	patch.Library.Uses, patch.Main, patch.Interface.Macros = []string{}, []api.Expr{}, []api.Macro{}
	strange := bare("A name!")
	strange.Against = nil
	for _, u := range append(bares("z / z* / z:a / z*:z / z! / z:a b c d e f g h i j"), odd, patch, strange, build(t, textA), build(t, textB, shown(t, textA)), build(t, "patch a;", shown(t, textA))) {
		if e := CheckUnit(u); e != api.OK {
			t.Errorf("CheckUnit(%+v) = %d", u, e)
		}
	}
	for what, u := range wrongUnits(t) {
		if e := CheckUnit(u); e != api.ErrInterface {
			t.Errorf("CheckUnit of a unit with %s = %d", what, e)
		}
	}
}

// linkers calls the functions that take units with some. Returned are the error, and whether all else is zero.
func linkers(units []api.Unit) map[string]func() (api.Errno, bool) {
	return map[string]func() (api.Errno, bool){
		"Order": func() (api.Errno, bool) {
			l, e := Order(units)
			return e, l == nil
		},
		"Stale": func() (api.Errno, bool) {
			l, e := Stale(units)
			return e, l == nil
		},
		"Link": func() (api.Errno, bool) {
			p, e := Link(units)
			return e, same(p, api.Program{})
		},
		"Depends": func() (api.Errno, bool) {
			l, e := Depends(units, "no such unit")
			return e, l == nil
		},
	}
}

// P6.1: the errors of units, ahead of all else.
func TestUnitErrors(t *testing.T) {
	eighteen := bares(times(9, "p! /") + "a:q / b:b / c / d / e / f / g / h / i")
	for _, x := range []struct {
		units []api.Unit
		want  api.Errno
	}{
		{append(eighteen, bare("j")), api.ErrLong}, {append(eighteen, bare("p!"), api.Unit{}), api.ErrLong}, {append(eighteen, bare("a")), api.ErrLong}, {make([]api.Unit, 19), api.ErrLong},
		{append(eighteen[:17:17], api.Unit{}), api.ErrInterface}, {append(bares("a / a"), api.Unit{}), api.ErrInterface}, {make([]api.Unit, 18), api.ErrInterface},
		{append(eighteen[:17:17], bare("a")), api.ErrTwin}, {bares("a:q / b / a"), api.ErrTwin}, {bares("a / a! / a*"), api.ErrTwin},
	} {
		for name, link := range linkers(x.units) {
			if e, zero := link(); e != x.want || !zero {
				t.Errorf("%s of %d units = %d, other results zero: %t; expected %d", name, len(x.units), e, zero, x.want)
			}
		}
	}
	for what, u := range wrongUnits(t) {
		for name, link := range linkers([]api.Unit{bare("b: q"), u, bare("b")}) {
			if e, zero := link(); e != api.ErrInterface || !zero {
				t.Errorf("%s of a unit with %s = %d, other results zero: %t", name, what, e, zero)
			}
		}
	}
	for name, link := range linkers(eighteen) {
		want := map[string]api.Errno{"Order": api.ErrMissing, "Stale": api.OK, "Link": api.ErrMissing, "Depends": api.ErrNone}[name]
		if e, _ := link(); e != want {
			t.Errorf("%s of 18 units = %d; expected %d", name, e, want)
		}
	}
}

// P6.1, P6.3
func TestOrder(t *testing.T) {
	for _, x := range []struct{ units, want string }{
		{"", ""}, {"a", "0"}, {"a*", "0"}, {"a / b", "0 1"}, {"b / a", "0 1"}, {"b:a / a", "1 0"}, {"a / b:a", "0 1"}, {"c:b / b:a / a", "2 1 0"}, {"c:a b / b:a / a", "2 1 0"}, {"c:a b / a / b", "1 2 0"}, {"d / c:d a / b:a / a", "0 3 1 2"},
		{"c:a / d / b:c / a / e:d / f", "1 3 0 2 4 5"}, {"a / c:b / b:a / d", "0 2 1 3"}, {"b:a a a / a", "1 0"}, {"x:a / y:x / a / z", "2 0 1 3"},
		{"a! / a", "1"}, {"a / a! / a! / b! / b:a", "0 4"}, {"b! / a! / b:a / a", "3 2"},
		{"r:q/q:p/p:o/o:n/n:m/m:l/l:k/k:j/j:i/i:h/h:g/g:f/f:e/e:d/d:c/c:b/b:a/a", "17 16 15 14 13 12 11 10 9 8 7 6 5 4 3 2 1 0"},
	} {
		got, e := Order(bares(x.units))
		if e != api.OK || indices(got) != x.want {
			t.Errorf("Order(%s) = %s, %d; expected %s", x.units, indices(got), e, x.want)
		}
	}
	for units, want := range map[string]api.Errno{
		"a:a": api.ErrLoop, "a:b / b:a": api.ErrLoop, "a:b / b:c / c:a": api.ErrLoop, "a / b:a / c:d b / d:c / a!": api.ErrLoop, "a / b:a b": api.ErrLoop, "a:b / b / c:c": api.ErrLoop,
		"a:b": api.ErrMissing, "a!": api.ErrMissing, "a! / b": api.ErrMissing, "a:b / b!": api.ErrMissing, "b / a:b c": api.ErrMissing, "a / b! ": api.ErrMissing, "a:a / b:c": api.ErrMissing, "a:b / b:a / c!": api.ErrMissing, "a:a b": api.ErrMissing,
	} {
		if got, e := Order(bares(units)); e != want || got != nil {
			t.Errorf("Order(%s) = %s, %d; expected %d", units, indices(got), e, want)
		}
		if p, e := Link(bares(units)); e != want || !same(p, api.Program{}) {
			t.Errorf("Link(%s) = %+v, %d; expected %d", units, p, e, want)
		}
	}
}

// P6.1
func TestStale(t *testing.T) {
	a, b := build(t, textA), bare("b: a")
	other := build(t, "library a; export size; define generic size (o);")
	against := func(u api.Unit, l ...api.Interface) api.Unit {
		u.Against = l
		return u
	}
	fresh := against(b, a.Interface)
	moved := build(t, "/* */ library a ; export size ; define macro inc { inc ( ?e:expression ) } => { ?e + 1 } end ; define generic size ( o ) ; define method size ( o ) 7 end ; 8")
	for _, x := range []struct {
		units []api.Unit
		want  string
	}{
		{nil, ""}, {bares("a"), ""}, {bares("a / b:a / a! / b! / c:a b"), ""}, {[]api.Unit{fresh, a}, ""}, {[]api.Unit{a, fresh}, ""}, {[]api.Unit{fresh, moved}, ""}, {[]api.Unit{build(t, textB, a.Interface), moved, build(t, "patch a;", moved.Interface)}, ""},
		// another interface
		{[]api.Unit{fresh, other}, "0"}, {[]api.Unit{other, fresh}, "1"}, {[]api.Unit{b, a}, "0"}, {[]api.Unit{other, against(b, other.Interface), named(fresh, "c"), named(fresh, "d")}, "2 3"}, {[]api.Unit{a, against(bare("a!"), other.Interface), against(bare("a!"), a.Interface)}, "1"},
		// no such unit
		{[]api.Unit{fresh}, "0"}, {bares("b:a / a!"), "0 1"}, {bares("a / b:a / c! / d:x a"), "2 3"}, {[]api.Unit{against(bare("b"), plain("c"))}, "0"},
		// not against what is used
		{[]api.Unit{against(b), a}, "0"}, {[]api.Unit{a, against(bare("a!"))}, "1"}, {[]api.Unit{bare("a"), bare("b"), against(bare("c: a b"), plain("b")), against(bare("d: a b"), plain("b"), plain("a"))}, "2"}, {[]api.Unit{bare("a"), bare("b"), against(bare("a!"), plain("b"))}, "2"},
		// against what is not used
		{[]api.Unit{bare("a"), bare("b"), against(bare("c"), plain("b"), plain("a")), against(bare("b!"), plain("a"), plain("b"))}, ""}, {[]api.Unit{a, bare("b"), against(bare("c: b"), plain("b"), plain("a"))}, "2"},
		// loops
		{bares("a:a / b:c / c:b"), ""}, {[]api.Unit{against(bare("a: a"))}, "0"},
	} {
		got, e := Stale(x.units)
		if e != api.OK || indices(got) != x.want {
			t.Errorf("Stale(%+v) = %s, %d; expected %s", x.units, indices(got), e, x.want)
		}
	}
}

// P6.1, P6.4
func TestLink(t *testing.T) {
	deep := api.Expr{Kind: api.ExNum}
	for range 1 << 16 {
		deep = api.Expr{Kind: api.ExPrim, Name: "not", Args: []api.Expr{deep}}
	}
	a, b := build(t, textA), build(t, textB, shown(t, textA))
	p := build(t, "patch a ; define method size ( o ) 1 end ;", a.Interface)
	q := build(t, "patch b ; define class <c> (<object>) slot s :: type-union (<c>, limited (0, 9)), init-value: method (x :: <c>) size (x) end; end;", b.Interface)
	q.Library.Defs[0].Domain = api.DomainDef{Generic: "x", Types: []api.Type{{Kind: api.TyUnion, Args: []api.Type{{Kind: api.TyBool}}}}}
	q.Library.Defs[0].Class.Supers = []string{"x", "y"}
	for _, units := range [][]api.Unit{{q, b, p, a, p}, {a, b, q, p, p}, {b, q, a, p, p}} {
		before := whole(units)
		got, e := Link(units)
		want := api.Program{Libs: []api.Library{a.Library, b.Library}, Patches: []api.Library{q.Library, p.Library, p.Library}, Main: b.Main[0]}
		if e != api.OK || !same(got, want) {
			t.Errorf("Link = %+v, %d; expected %+v", got, e, want)
		}
		if !apart(got, a, b, p, q) || whole(units) != before {
			t.Errorf("Link shares or changes memory")
		}
	}
	if got, e := Link([]api.Unit{bare("c"), {Library: api.Library{Name: "d"}, Interface: plain("d"), Main: []api.Expr{deep}}}); e != api.OK || got.Main.Kind != api.ExPrim {
		t.Errorf("Link of a deep main expression = %d", e)
	}
	stale := bares("a / b* / c:a")
	stale[2].Against = nil
	for what, x := range map[string]struct {
		units []api.Unit
		want  api.Errno
	}{
		"nothing": {nil, api.ErrMain}, "one without Main": {bares("a"), api.ErrMain}, "two Main": {bares("a* / b*"), api.ErrMain}, "three Main": {bares("a* / b:a / c*:a / d*"), api.ErrMain}, "stale, one Main": {stale, api.ErrStale}, "stale, no Main": {stale[2:3:3], api.ErrMissing}, "stale, and no Main": {[]api.Unit{stale[0], stale[2]}, api.ErrStale}, "a loop, stale": {append(bares("e:e"), stale...), api.ErrLoop}, "one missing, a loop": {append(bares("e:e / f!"), stale...), api.ErrMissing}, "one Main": {bares("a / b*"), api.OK}, "another one": {bares("a* / b:a / a!"), api.OK}, "18 units": {bares("a*" + times(17, "/ a!")), api.OK},
	} {
		got, e := Link(x.units)
		if e != x.want || e != api.OK && !same(got, api.Program{}) {
			t.Errorf("Link of %s = %+v, %d; expected %d", what, got, e, x.want)
		}
	}
	if got, e := Link(bares("b / a*")); e != api.OK || len(got.Libs) != 2 || got.Libs[0].Name != "b" || got.Main.Num != 2 || got.Patches != nil {
		t.Errorf("Link(b / a*) = %+v, %d", got, e)
	}
}

// P6.1, P6.7
func TestDepends(t *testing.T) {
	const units = "a / b:a / c:b / d:c a e / e:a / f:g / g:f h / h:h / a! / zz:d / b!"
	for name, want := range map[string]string{"a": "", "b": "a", "c": "a b", "d": "a b c e", "e": "a", "f": "f g h", "g": "f g h", "h": "h", "zz": "a b c d e"} {
		if got, e := Depends(bares(units), name); e != api.OK || strings.Join(got, " ") != want {
			t.Errorf("Depends of %s = %v, %d; expected %s", name, got, e, want)
		}
	}
	if got, e := Depends(bares("q: b <a> a0 a-b a / a: / b / <a> / a0 / a-b"), "q"); e != api.OK || strings.Join(got, " ") != "<a> a a-b a0 b" {
		t.Errorf("Depends = %v, %d", got, e)
	}
	for _, x := range []struct {
		units, name string
		want        api.Errno
	}{
		{"", "a", api.ErrNone}, {"", "", api.ErrNone}, {"a", "b", api.ErrNone}, {"a! / b", "a", api.ErrNone}, {"a:c", "b", api.ErrNone}, {"a:b", "a", api.ErrMissing}, {"a / b:c", "a", api.ErrMissing}, {"a / b!", "a", api.ErrMissing}, {"a:a / b:c / c!", "a", api.ErrMissing},
	} {
		if got, e := Depends(bares(x.units), x.name); e != x.want || got != nil {
			t.Errorf("Depends(%s, %s) = %v, %d; expected %d", x.units, x.name, got, e, x.want)
		}
	}
}
