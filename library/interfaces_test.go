package library

import (
	"testing"

	"skerry/api"
	"skerry/copies"
)

const (
	textA = "library a ; export size ; define generic size ( o ) ; define macro inc { inc ( ?e:expression ) } => { ?e + 1 } end ;"
	textB = "library b ; use a ; define method size ( o :: <integer> ) inc ( o ) end ; size ( 3 )"
	rich  = "library r; export k, <c>, s; define constant k = 1; define class <c> (<object>) slot s; end; define generic g (a, b);" +
		"define macro one { one (?a:name, ?b:expression) } => { ?a + (?b) } { one () } => { 7 } end; define macro two { two ?b:body end } => { begin ?b end } end;"
)

// changed is a copy of an interface that was changed.
func changed(i api.Interface, change func(i *api.Interface)) api.Interface {
	i = copies.Interface(i)
	change(&i)
	return i
}

// P6.1: the interfaces that are not valid, each of which differs in one thing from one that is.
func wrongInterfaces(t *testing.T) map[string]api.Interface {
	r := shown(t, rich)
	wrong := map[string]func(i *api.Interface){
		"no Lib":                func(i *api.Interface) { i.Face.Lib, i.Whole.Lib = "", "" },
		"a Lib that is no name": func(i *api.Interface) { i.Face.Lib, i.Whole.Lib = "r@r", "r@r" },
		"another Lib in Face":   func(i *api.Interface) { i.Face.Lib = "q" },
		"another Lib in Whole":  func(i *api.Interface) { i.Whole.Lib = "q" },
		"Face without Lib":      func(i *api.Interface) { i.Face = api.Face{} },
		"Whole without Lib":     func(i *api.Interface) { i.Whole = api.Face{} },
		"a wrong Name in Face":  func(i *api.Interface) { i.Face.Names[1].Name = "k@r" },
		"a wrong Name in Whole": func(i *api.Interface) { i.Whole.Names[1].Name = "" },
		"a wrong Full in Face":  func(i *api.Interface) { i.Face.Names[0].Full = "k" },
		"a wrong Kind in Whole": func(i *api.Interface) { i.Whole.Names[0].Kind = api.DfMethod },
		"a wrong Arity in Face": func(i *api.Interface) { i.Face.Names[0].Arity = 1 },
		"twice the same name":   func(i *api.Interface) { i.Whole.Names[1].Name = i.Whole.Names[0].Name },
		"twice, in Face":        func(i *api.Interface) { i.Face.Names = append(i.Face.Names, i.Face.Names[0]) },
		"too many names": func(i *api.Interface) {
			i.Whole = shown(t, "library r; "+constants("k", 300)).Whole
			i.Whole.Names = append(i.Whole.Names, i.Face.Names[0])
		},
		"a macro without name":  func(i *api.Interface) { i.Macros[0].Name = "" },
		"a macro named end":     func(i *api.Interface) { i.Macros[0].Name = "end" },
		"a macro without rules": func(i *api.Interface) { i.Macros[1].Rules = nil },
		"a wrong pattern":       func(i *api.Interface) { i.Macros[0].Rules[0].Pattern[0].Tok.Text = "?a" },
		"a wrong template":      func(i *api.Interface) { i.Macros[0].Rules[0].Template[0].Tok.Text = "?c" },
		"a wrong token":         func(i *api.Interface) { i.Macros[0].Rules[1].Template[0].Tok.Num = 8 },
		"macros named alike":    func(i *api.Interface) { i.Macros[1].Name = "one" },
		"the same macro twice":  func(i *api.Interface) { i.Macros = append(i.Macros, i.Macros[0]) },
		"too many macros": func(i *api.Interface) {
			i.Macros = append(macros(t, functions("f", 20)), macros(t, functions("g", 21))...)
		},
		"nothing": func(i *api.Interface) { *i = api.Interface{} },
	}
	l := map[string]api.Interface{}
	for what, change := range wrong {
		l[what] = changed(r, change)
	}
	return l
}

// P6.1
func TestCheck(t *testing.T) {
	right := []api.Interface{plain("a"), plain("<b>"), shown(t, textA), shown(t, rich), shown(t, "library r; "+constants("k", 300))}
	right = append(right, changed(right[3], func(i *api.Interface) {
		i.Face.Names, i.Whole.Names = i.Whole.Names, i.Face.Names // Face need not be part of Whole
		i.Macros = append(macros(t, functions("f", 20)), macros(t, functions("g", 20))...)
	}))
	for _, i := range right {
		if e := Check(i); e != api.OK {
			t.Errorf("Check(%+v) = %d", i, e)
		}
		if !Same(i, i) || !Same(i, copies.Interface(i)) {
			t.Errorf("Same(%+v, itself) = false", i)
		}
	}
	for what, i := range wrongInterfaces(t) {
		if e := Check(i); e != api.ErrInterface {
			t.Errorf("Check of an interface with %s = %d", what, e)
		}
		if Same(i, i) || Same(i, right[3]) || Same(right[3], i) {
			t.Errorf("Same of an interface with %s = true", what)
		}
	}
}

// P6.1
func TestSame(t *testing.T) {
	r := shown(t, rich)
	for what, change := range map[string]func(i *api.Interface){
		"Mark":    func(i *api.Interface) { i.Macros[0].Rules[0].Template[0].Tok.Mark = 3 },
		"At":      func(i *api.Interface) { i.Macros[0].Rules[0].Pattern[1].Tok.At = 3000 },
		"nothing": func(i *api.Interface) {},
	} {
		if i := changed(r, change); !Same(i, r) || !Same(r, i) {
			t.Errorf("Same of interfaces that differ in %s = false", what)
		}
	}
	for what, change := range map[string]func(i *api.Interface){ // such tokens are not valid
		"a Mark below 0": func(i *api.Interface) { i.Macros[0].Rules[0].Template[0].Tok.Mark = -1 },
		"an At below 0":  func(i *api.Interface) { i.Macros[0].Rules[0].Pattern[1].Tok.At = -1 },
	} {
		if i := changed(r, change); Check(i) != api.ErrInterface || Same(i, r) || Same(r, i) || Same(i, i) {
			t.Errorf("Same of interfaces of which one has %s = true", what)
		}
	}
	empty := plain("a")
	empty.Face.Names, empty.Whole.Names, empty.Macros = []api.Export{}, []api.Export{}, []api.Macro{}
	if !Same(empty, plain("a")) {
		t.Errorf("Same of empty lists and nil = false")
	}
	for what, change := range map[string]func(i *api.Interface){
		"Lib":                 func(i *api.Interface) { i.Face.Lib, i.Whole.Lib = "q", "q" },
		"a Name of Face":      func(i *api.Interface) { i.Face.Names[0].Name = "l" },
		"a Name of Whole":     func(i *api.Interface) { i.Whole.Names[0].Name = "l" },
		"a Full of Face":      func(i *api.Interface) { i.Face.Names[0].Full = "k@q" },
		"a Full of Whole":     func(i *api.Interface) { i.Whole.Names[0].Full = "k@q" },
		"a Kind":              func(i *api.Interface) { i.Face.Names[0].Kind = api.DfClass },
		"an Arity":            func(i *api.Interface) { i.Whole.Names[4].Arity = 3 },
		"the order of names":  func(i *api.Interface) { n := i.Face.Names; n[0], n[1] = n[1], n[0] },
		"the order in Whole":  func(i *api.Interface) { n := i.Whole.Names; n[0], n[1] = n[1], n[0] },
		"the number of names": func(i *api.Interface) { i.Face.Names = i.Face.Names[:2] },
		"names of Whole":      func(i *api.Interface) { i.Whole.Names = i.Whole.Names[1:] },
		"a macro's name":      func(i *api.Interface) { i.Macros[0].Name = "three" },
		"a macro's sort":      func(i *api.Interface) { i.Macros[0].Statement = true },
		"another one's sort":  func(i *api.Interface) { i.Macros[1].Statement = false },
		"the order of macros": func(i *api.Interface) { m := i.Macros; m[0], m[1] = m[1], m[0] },
		"a macro less":        func(i *api.Interface) { i.Macros = i.Macros[:1] },
		"no macros":           func(i *api.Interface) { i.Macros = nil },
		"a rule less":         func(i *api.Interface) { i.Macros[0].Rules = i.Macros[0].Rules[:1] },
		"the order of rules":  func(i *api.Interface) { r := i.Macros[0].Rules; r[0], r[1] = r[1], r[0] },
		"a pattern":           func(i *api.Interface) { i.Macros[0].Rules[0].Pattern[1].Tok.Text = ";" },
		"a template":          func(i *api.Interface) { i.Macros[0].Rules[0].Template[1].Tok.Text = "*" },
		"a number":            func(i *api.Interface) { f := &i.Macros[0].Rules[1].Template[0]; f.Tok.Num, f.Tok.Text = 8, "8" },
		"an empty template":   func(i *api.Interface) { i.Macros[0].Rules[1].Template = nil },
	} {
		i := changed(r, change)
		if e := Check(i); e != api.OK {
			t.Fatalf("an interface that differs in %s is not valid: %d", what, e)
		}
		if Same(i, r) || Same(r, i) {
			t.Errorf("Same of interfaces that differ in %s = true", what)
		}
	}
}

// takers calls the functions that take interfaces with some, and other arguments that have errors, too. Returned are the error, and whether all else is zero.
func takers(used []api.Interface) map[string]func() (api.Errno, bool) {
	long := times(api.MaxText+1, " ")
	return map[string]func() (api.Errno, bool){
		"Uses": func() (api.Errno, bool) {
			l, e := Uses(long, used)
			return e, l == nil
		},
		"Front": func() (api.Errno, bool) {
			s, own, x, e := Front(long, used)
			return e, same(s, api.Source{}) && own == nil && x == api.Trouble{}
		},
		"Compile": func() (api.Errno, bool) {
			u, e := Compile(api.Source{}, []api.Macro{{}}, used)
			return e, same(u, api.Unit{})
		},
		"Build": func() (api.Errno, bool) {
			u, x, e := Build(long, used)
			return e, same(u, api.Unit{}) && x == api.Trouble{}
		},
	}
}

// P6.1: the errors of interfaces, ahead of all else.
func TestInterfaceErrors(t *testing.T) {
	none, twin := api.Interface{}, plain("l0")
	for _, x := range []struct {
		used []api.Interface
		want api.Errno
	}{
		{plains(11), api.ErrLong}, {append(plains(10), none), api.ErrLong}, {append(plains(10), twin), api.ErrLong}, {append(plains(12), none, twin), api.ErrLong},
		{append(plains(9), none), api.ErrInterface}, {[]api.Interface{none}, api.ErrInterface}, {[]api.Interface{none, none}, api.ErrInterface}, {[]api.Interface{twin, twin, none}, api.ErrInterface},
		{append(plains(9), twin), api.ErrTwin}, {[]api.Interface{twin, twin}, api.ErrTwin}, {[]api.Interface{shown(t, rich), twin, plain("r")}, api.ErrTwin},
	} {
		for name, take := range takers(x.used) {
			if e, zero := take(); e != x.want || !zero {
				t.Errorf("%s with %d interfaces = %d, other results zero: %t; expected %d", name, len(x.used), e, zero, x.want)
			}
		}
	}
	for what, i := range wrongInterfaces(t) {
		for name, take := range takers([]api.Interface{plain("z"), i}) {
			if e, zero := take(); e != api.ErrInterface || !zero {
				t.Errorf("%s with %s = %d, other results zero: %t", name, what, e, zero)
			}
		}
	}
	if u, x, e := Build("library b; use l9; use l0;", plains(10)); e != api.OK || libs(u.Against) != "l0 l9" {
		t.Errorf("Build with ten interfaces = %v, %v, %d", u, x, e)
	}
}
