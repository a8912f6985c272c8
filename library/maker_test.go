package library

import (
	"fmt"
	"math/rand"
	"slices"
	"strings"
	"testing"

	"skerry/api"
	"skerry/lex"
)

// maker makes texts and units by chance.
type maker struct {
	*rand.Rand
	flawless bool // nothing is wrong on purpose
}

func newMaker(seed int64) *maker {
	return &maker{Rand: rand.New(rand.NewSource(seed))}
}

func (m *maker) pick(l ...string) string {
	return l[m.Intn(len(l))]
}

// rarely is true once in n times, but never if nothing is to be wrong.
func (m *maker) rarely(n int) bool {
	return m.Intn(n) == 0 && !m.flawless
}

// library is a text of a library, and what others may know of it.
type library struct {
	name   string
	text   string
	macros []string          // the names of the macros that it defines
	uses   []string          // what it uses
	whole  map[string]bool   // of these it uses all, without a prefix
	names  []string          // names of integers in it
	parts  map[string]string // its macros, exports, definitions and main expression
}

// libraries makes libraries, each of which may use those ahead of it.
func (m *maker) libraries(n int) []library {
	var l []library
	for i := range n {
		l = append(l, m.library(string(rune('a'+i)), l))
	}
	return l
}

func (m *maker) library(name string, others []library) library {
	x := library{name: name, whole: map[string]bool{}, names: []string{"k-" + name}}
	head := "library " + name + " ; "
	known := map[string]bool{}
	for _, i := range m.Perm(len(others)) {
		if m.Intn(2) == 0 {
			head += m.clause(&x, others[i], known)
		}
	}
	x.parts = map[string]string{"head": head, "export": "export k-" + name + m.pick("", " , g-"+name) + " ; "}
	for _, macro := range []string{"inc", "dec", "while", "unless"} {
		if m.Intn(3) == 0 {
			x.macros = append(x.macros, macro)
			known[macro] = true
		}
	}
	sorted := slices.Sorted(mapKeys(known))
	for _, macro := range x.macros {
		x.parts["macros"] += m.macro(name, macro)
	}
	x.parts["defs"] = "define constant k-" + name + " = " + m.expr(sorted, x.names[1:], 2) + " ; define generic g-" + name + " ( o ) ; "
	if m.Intn(3) == 0 {
		x.parts["defs"] += "define class <c-" + name + "> ( <object> ) slot s-" + name + " , init-value: " + m.expr(sorted, x.names, 1) + " ; end ; "
	}
	x.parts["methods"] = m.methods(x, sorted)
	if m.Intn(2) == 0 {
		x.parts["main"] = m.expr(sorted, x.names, 3) + " ;"
	}
	x.text = x.parts["head"] + x.parts["export"] + x.parts["macros"] + x.parts["defs"] + x.parts["methods"] + x.parts["main"]
	return x
}

func mapKeys(set map[string]bool) func(func(string) bool) {
	return func(yield func(string) bool) {
		for name := range set {
			if !yield(name) {
				return
			}
		}
	}
}

// clause makes a use clause.
func (m *maker) clause(x *library, other library, known map[string]bool) string {
	x.uses = append(x.uses, other.name)
	k := "k-" + other.name
	switch m.Intn(4) {
	case 0:
		x.names = append(x.names, "p_"+k)
		return "use " + other.name + " , prefix: p_ ; "
	case 1:
		x.names = append(x.names, "i-"+k)
		return "use " + other.name + " , import: { " + k + " => i-" + k + " } ; "
	}
	x.names = append(x.names, k)
	x.whole[other.name] = true
	for _, macro := range other.macros {
		known[macro] = true
	}
	return "use " + other.name + " ; "
}

// macro makes the definition of a macro. Of each name there are function macros or statement macros alone, as those that are used are words even if the text defines function macros with their names.
func (m *maker) macro(lib, name string) string {
	sum := m.pick("?e + 1", "?e - 2 - k-"+lib, "k-"+lib+" * ( ?e )", "begin let t = ?e ; t + t end", "?e")
	switch name {
	case "inc", "dec":
		return "define macro " + name + " { " + name + " ( ?e:expression ) } => { " + sum + " } end ; "
	}
	body := m.pick("if ( ?e ) ?b else 0 end", "begin ?e ; ?b end", "method ( t ) ?b end ( ?e )")
	return "define macro " + name + " { " + name + " ( ?e:expression ) ?b:body end } => { " + body + " } end macro " + name + " ; "
}

func (m *maker) methods(x library, macros []string) string {
	text := ""
	for i := range m.Intn(3) {
		text += fmt.Sprintf("define method g-%s ( o == %d ) %s end %s; ", x.name, i, m.expr(macros, append(x.names, "o"), 2), m.pick("", "method ", "g-"+x.name+" ", "method g-"+x.name+" "))
	}
	return text
}

// expr makes an expression with some macros and names.
func (m *maker) expr(macros, names []string, depth int) string {
	inner := func() string { return m.expr(macros, names, depth-1) }
	if depth == 0 || m.Intn(5) == 0 {
		if len(names) == 0 || m.Intn(3) == 0 {
			return m.pick("1", "2", "( 3 )")
		}
		return m.pick(names...)
	}
	if m.rarely(30) {
		macros = []string{"inc", "while"}
	}
	if len(macros) > 0 && m.Intn(2) == 0 {
		switch macro := m.pick(macros...); macro {
		case "inc", "dec":
			return macro + " ( " + inner() + " )"
		default:
			return macro + " ( " + inner() + " ) " + inner() + " end"
		}
	}
	switch m.Intn(4) {
	case 0:
		return inner() + " + " + inner()
	case 1:
		return "if ( " + inner() + " ) " + inner() + " end"
	case 2:
		return "begin " + inner() + " ; " + inner() + " end"
	}
	return "- " + inner()
}

// hurt replaces, inserts or leaves out tokens of a text.
func (m *maker) hurt(text string) string {
	l, _, _ := lex.Scan(text)
	for range 1 + m.Intn(2) {
		i := m.Intn(len(l))
		other := l[m.Intn(len(l))]
		if m.Intn(4) == 0 {
			other = api.Token{Kind: api.TkName, Text: m.pick("end", "use", "macro", ";", "(", "while", "inc", "define", "\"", "let")}
		}
		switch m.Intn(3) {
		case 0:
			l[i] = other
		case 1:
			l = slices.Insert(l, i, other)
		default:
			l = slices.Delete(l, i, i+1)
		}
		if len(l) == 0 {
			break
		}
	}
	var words []string
	for _, t := range l {
		words = append(words, t.Text)
	}
	return strings.Join(words, " ")
}

// built builds libraries, each with the interfaces of those ahead of it.
func built(t *testing.T, l []library) ([]api.Unit, []api.Interface) {
	t.Helper()
	var units []api.Unit
	var used []api.Interface
	for _, x := range l {
		u, where, e := Build(x.text, used)
		if e != api.OK {
			t.Fatalf("Build(%s) = %v, %d", x.text, where, e)
		}
		units = append(units, u)
		used = append(used, u.Interface)
	}
	return units, used
}

// units makes units without definitions, most of which fit together.
func (m *maker) units() []api.Unit {
	n := 1 + m.Intn(9)
	if m.Intn(8) == 0 {
		n = 10 + m.Intn(10)
	}
	var l []api.Unit
	var libs []string
	for i := range n {
		if m.Intn(6) == 0 && len(libs) > 0 {
			l = append(l, bare(m.pick(libs...)+"!"))
			continue
		}
		name := string(rune('a' + i))
		text := name + m.pick("", "", "", "", "*") + ":"
		for range m.Intn(4) {
			if m.rarely(12) {
				text += " " + string(rune('a'+m.Intn(n+1)))
			} else if len(libs) > 0 {
				text += " " + m.pick(libs...)
			}
		}
		l = append(l, bare(text))
		if libs = append(libs, name); m.rarely(60) {
			l[i] = named(l[i], "a")
		}
	}
	m.Shuffle(n, func(i, j int) { l[i], l[j] = l[j], l[i] })
	for i := range l {
		m.vary(&l[i])
	}
	return l
}

// vary changes a unit, so that it may not fit to others, or may not be valid.
func (m *maker) vary(u *api.Unit) {
	if m.rarely(20) {
		f := &u.Interface.Face
		f.Names = append(f.Names, api.Export{Name: "x", Full: "x@x", Kind: api.DfConst})
	}
	if m.rarely(20) && len(u.Against) > 0 {
		u.Against = slices.Delete(u.Against, 0, 1)
	}
	if m.rarely(20) {
		u.Against = append(u.Against, plain(string(rune('a'+m.Intn(12)))))
	}
	if m.rarely(200) {
		u.Library.Name = ""
	}
	if m.rarely(60) {
		u.Main = append(u.Main, api.Expr{Kind: api.ExNum, Num: 7})
	}
}
