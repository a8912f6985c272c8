package c3

import (
	"maps"
	"slices"
	"strings"
	"testing"

	"skerry/api"
)

// fault is a list of heirs that is no hierarchy, and the error of Check.
type fault struct {
	heirs []api.Heir
	e     api.Errno
}

// wrong is lists of heirs that are no hierarchies. Most of them have classes o and a.
func wrong() map[string]fault {
	l := map[string]fault{}
	for what, text := range map[string]string{
		"a name twice":                       "o; a o; o",
		"a name twice, one after the other":  "o; o; a o",
		"a name twice, with superclasses":    "o; a o; b o; a b",
		"a superclass twice":                 "o; a o o",
		"a superclass twice, not in a row":   "o; b o; a b o b",
		"a superclass that is not there":     "o; a o; b a c",
		"only a superclass not there":        "o; a b",
		"a superclass behind its heir":       "a o; o",
		"one of two behind its heir":         "o; a o b; b o",
		"a class that is its own superclass": "o; a a",
		"a loop":                             "o; a b; b a",
		"a superclass in other letters":      "o; a O",
		"a fault at the end":                 example + "; z y z",
	} {
		l[what] = fault{heirs(text), api.ErrHeir}
	}
	rooted := func(more ...api.Heir) []api.Heir { return append(heirs("o; a o"), more...) }
	for what, g := range map[string][]api.Heir{
		"an empty name":                      rooted(api.Heir{}),
		"an empty name ahead":                append([]api.Heir{{}}, rooted()...),
		"an empty name with superclasses":    rooted(api.Heir{Supers: []string{"a"}}),
		"nothing but an empty name":          {{}},
		"an empty superclass":                rooted(api.Heir{Name: "b", Supers: []string{""}}),
		"an empty class, a superclass":       {{}, {Name: "o", Supers: []string{""}}},
		"nine superclasses":                  append(roots(9), api.Heir{Name: "o", Supers: numbered(0, 9)}),
		"nine times the same superclass":     rooted(api.Heir{Name: "b", Supers: slices.Repeat([]string{"o"}, 9)}),
		"nine superclasses, not there":       rooted(api.Heir{Name: "b", Supers: numbered(0, 9)}),
		"nine superclasses, one behind":      append(roots(8), api.Heir{Name: "o", Supers: append(numbered(0, 8), "p")}, api.Heir{Name: "p"}),
		"a name twice in 120 heirs":          append(roots(119), api.Heir{Name: "n0"}),
		"a superclass not there in 120 ones": append(roots(119), api.Heir{Name: "o", Supers: []string{"n119"}}),
	} {
		l[what] = fault{g, api.ErrHeir}
	}
	for what, g := range map[string][]api.Heir{
		"121 heirs":                        append(rooted(), roots(119)...),
		"121 heirs in a tower":             tower(121, 8),
		"121 empty names":                  make([]api.Heir, 121),
		"121 times the same name":          slices.Repeat(heirs("o"), 121),
		"121 heirs and nine superclasses":  append(roots(120), api.Heir{Name: "o", Supers: numbered(0, 9)}),
		"121 heirs and a superclass twice": append(roots(120), heirs("o n1 n1")...),
		"121 heirs, a superclass behind":   append(heirs("a o; o"), roots(119)...),
		"many heirs":                       roots(5000),
	} {
		l[what] = fault{g, api.ErrLong}
	}
	return l
}

// P7.1
func TestCheck(t *testing.T) {
	odd := []api.Heir{{Name: " "}, {Name: "\x00", Supers: []string{" "}}, {Name: "\xff\xfe", Supers: []string{"\x00", " "}}, {Name: strings.Repeat("long", 1000), Supers: []string{" "}}}
	for _, g := range [][]api.Heir{nil, {}, heirs("a"), heirs("a; A"), heirs(example), heirs(ring), heirs("a; b a; c a b"), odd, roots(120), tower(120, 1), tower(120, 8), append(roots(8), api.Heir{Name: "o", Supers: numbered(0, 8)}), {{Name: "a", Supers: []string{}}}} {
		if e := Check(g); e != api.OK {
			t.Errorf("Check(%v) = %d", g, e)
		}
	}
	for what, x := range wrong() {
		if e := Check(x.heirs); e != x.e {
			t.Errorf("Check of heirs with %s = %d; expected %d", what, e, x.e)
		}
	}
}

// callers calls the functions that take a hierarchy and the name of a class. Returned are the error, and whether all else is zero.
func callers(g []api.Heir, name string) map[string]func() (api.Errno, bool) {
	only := func(e api.Errno) (api.Errno, bool) { return e, true }
	list := func(l []string, e api.Errno) (api.Errno, bool) { return e, l == nil }
	return map[string]func() (api.Errno, bool){
		"Ancestors":             func() (api.Errno, bool) { return list(Ancestors(g, name)) },
		"Linearize":             func() (api.Errno, bool) { return list(Linearize(g, name)) },
		"Cycle":                 func() (api.Errno, bool) { return list(Cycle(g, name)) },
		"Verify":                func() (api.Errno, bool) { return only(Verify(g, name, []string{name})) },
		"Verify of no list":     func() (api.Errno, bool) { return only(Verify(g, name, nil)) },
		"VerifyCycle":           func() (api.Errno, bool) { return only(VerifyCycle(g, name, []string{"a", "b"})) },
		"VerifyCycle of none":   func() (api.Errno, bool) { return only(VerifyCycle(g, name, nil)) },
		"Precedes":              func() (api.Errno, bool) { return precedes(g, name, name, name) },
		"Precedes of the empty": func() (api.Errno, bool) { return precedes(g, name, "", "") },
		"Lists": func() (api.Errno, bool) {
			all, e := Lists(g, name)
			return e, all == nil
		},
	}
}

func precedes(g []api.Heir, name, a, b string) (api.Errno, bool) {
	is, e := Precedes(g, name, a, b)
	return e, !is
}

// P7.1: the errors of the hierarchy come ahead of all else, and then ErrNone.
func TestErrors(t *testing.T) {
	for what, x := range wrong() {
		for _, name := range []string{"o", "a", "b", "n0", "nothing", ""} {
			for f, call := range callers(x.heirs, name) {
				if e, zero := call(); e != x.e || !zero {
					t.Errorf("%s of %q in heirs with %s = %d, %t; expected %d", f, name, what, e, zero, x.e)
				}
			}
		}
		if all, at, e := All(x.heirs); all != nil || at != 0 || e != x.e {
			t.Errorf("All of heirs with %s = %v, %d, %d; expected %d", what, all, at, e, x.e)
		}
	}
	for _, g := range [][]api.Heir{nil, heirs(example), heirs(ring), roots(120)} {
		for _, name := range []string{"nothing", "", "A", "n120"} {
			for f, call := range callers(g, name) {
				if e, zero := call(); e != api.ErrNone || !zero {
					t.Errorf("%s of %q in %v = %d, %t", f, name, g, e, zero)
				}
			}
		}
	}
}

// P7.3, P7.4, P7.5: which functions have ErrC3 for a class without linearization, and for one with such a superclass
func TestErrC3(t *testing.T) {
	g := heirs("o; a o; b a; c a b; d o; e d c; f e")
	own := []string{"Linearize", "Verify", "Verify of no list", "Precedes", "Precedes of the empty"}
	above := append(own, "Lists", "Cycle", "VerifyCycle", "VerifyCycle of none")
	for name, functions := range map[string][]string{"o": nil, "b": nil, "d": nil, "c": own, "e": above, "f": above} {
		calls := callers(g, name)
		for _, f := range slices.Sorted(maps.Keys(calls)) {
			e, zero := calls[f]()
			if want := slices.Contains(functions, f); (e == api.ErrC3) != want || want && !zero {
				t.Errorf("%s of %s = %d, %t; expected ErrC3: %t", f, name, e, zero, want)
			}
		}
	}
}

// scribble overwrites lists.
func scribble(l ...[]string) {
	for _, names := range l {
		for i := range names {
			names[i] = "overwritten"
		}
		_ = append(names, "overwritten")
	}
}

// P1: no argument is changed, results share no memory with them or with each other, and the same call has the same results.
func TestMemory(t *testing.T) {
	for _, text := range []string{example, ring, "o; a o; b o; c a b; d b a", "a", "a; b a", "a; b a; c a b; d c"} {
		g := heirs(text)
		for _, x := range g {
			before, name := copied(g), x.Name
			for f, call := range map[string]func() [][]string{
				"Ancestors": func() [][]string { l, _ := Ancestors(g, name); return [][]string{l} },
				"Linearize": func() [][]string { l, _ := Linearize(g, name); return [][]string{l} },
				"Cycle":     func() [][]string { l, _ := Cycle(g, name); return [][]string{l} },
				"Lists":     func() [][]string { l, _ := Lists(g, name); return l },
				"All":       func() [][]string { l, _, _ := All(g); return l },
				"Merge":     func() [][]string { l, _ := Merge([][]string{x.Supers}); return [][]string{l} },
			} {
				first := call()
				want := copiedRows(first)
				for i, l := range first {
					scribble(l)
					if !sameRows(first[i+1:], want[i+1:]) {
						t.Errorf("%s of %s in %s: two lists share memory", f, name, text)
					}
				}
				if again := call(); !sameHeirs(g, before) || !sameRows(again, want) {
					t.Errorf("%s of %s in %s = %v, and then %v; the heirs are %v", f, name, text, want, again, g)
				}
			}
		}
	}
}

// P1: what verifies changes nothing.
func TestArguments(t *testing.T) {
	g, l := heirs(example), strings.Fields("c a b o")
	before := copied(g)
	Check(g)
	Below(g, "a", "b")
	Verify(g, "c", l)
	VerifyCycle(g, "e", l)
	Precedes(g, "c", "a", "b")
	if !sameHeirs(g, before) || !slices.Equal(l, strings.Fields("c a b o")) {
		t.Errorf("the arguments are %v and %v", g, l)
	}
	m := rows("(a o)(b o)()(a b)")
	if Merge(m); !sameRows(m, rows("(a o)(b o)()(a b)")) {
		t.Errorf("Merge changes its lists to %v", m)
	}
}
