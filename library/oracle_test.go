package library

import (
	"regexp"
	"slices"
	"strings"
	"testing"

	"skerry/api"
	"skerry/fragment"
	"skerry/lex"
	"skerry/macro"
	"skerry/module"
	"skerry/syntax"
)

// useClause is a use clause without a prefix or an import, in the kinds and texts of tokens.
var useClause = regexp.MustCompile(`(?m)^1 use\n1 ([^@\n]+)\n5 ;$`)

// usesByRules is Uses of tokens, by the words of the chapter.
func usesByRules(l []api.Token, used []api.Interface) []api.Macro {
	text := ""
	for _, t := range l {
		text += string(rune('0'+t.Kind)) + " " + t.Text + "\n"
	}
	var macros []api.Macro
	for _, i := range used {
		for _, m := range i.Macros {
			named := slices.ContainsFunc(useClause.FindAllStringSubmatch(text, -1), func(found []string) bool { return found[1] == i.Face.Lib })
			if named && !strings.Contains(" "+names(macros)+" ", " "+m.Name+" ") {
				macros = append(macros, m)
			}
		}
	}
	return macros
}

// frontByRules is Front, by the words of the chapter.
func frontByRules(text string, used []api.Interface) (s api.Source, own []api.Macro, x api.Trouble, e api.Errno) {
	refuse := func(layer, at int, e api.Errno) (api.Source, []api.Macro, api.Trouble, api.Errno) {
		return api.Source{}, nil, api.Trouble{Layer: layer, At: at}, e
	}
	tokens, at, e := lex.Scan(text)
	if e != api.OK {
		return refuse(1, at, e)
	}
	others := usesByRules(tokens, used)
	words := macro.Words(tokens)
	for _, m := range others {
		if m.Statement && !slices.Contains(words, m.Name) {
			words = append(words, m.Name)
		}
	}
	tree, at, e := fragment.Read(tokens, words)
	if e != api.OK {
		return refuse(2, at, e)
	}
	own, tree, at, e = macro.Define(tree)
	if e != api.OK {
		return refuse(3, at, e)
	}
	all := slices.Clone(own)
	for _, m := range others {
		if !slices.ContainsFunc(own, func(o api.Macro) bool { return o.Name == m.Name }) {
			all = append(all, m)
		}
	}
	tree, _, at, e = macro.With(all, tree)
	if e != api.OK {
		return refuse(3, at, e)
	}
	s, at, e = syntax.Parse(tree)
	if e != api.OK {
		return refuse(4, at, e)
	}
	return s, own, api.Trouble{}, api.OK
}

// compileByRules is Compile with right macros, by the words of the chapter.
func compileByRules(s api.Source, own []api.Macro, used []api.Interface) (api.Unit, api.Errno) {
	var faces []api.Face
	u := api.Unit{Patch: s.Patch}
	for _, i := range used {
		uses := slices.ContainsFunc(s.Uses, func(u api.Use) bool { return u.Lib == i.Face.Lib })
		if s.Patch && i.Face.Lib == s.Name {
			faces = []api.Face{i.Whole}
		}
		if !s.Patch {
			faces = append(faces, i.Face)
		}
		if uses || s.Patch && i.Face.Lib == s.Name {
			u.Against = append(u.Against, i)
		}
	}
	if s.Patch && len(own) > 0 {
		return api.Unit{}, api.ErrInterface
	}
	var e api.Errno
	if u.Library, u.Main, e = module.Resolve(s, faces); e != api.OK || s.Patch {
		return u, e
	}
	if u.Interface.Face, e = module.Faced(s, faces); e != api.OK {
		return u, e
	}
	u.Interface.Whole, e = module.Whole(s, faces)
	u.Interface.Macros = own
	return u, e
}

// TestByRules holds the functions that compile texts against the rules, for texts by chance of which many have errors.
func TestByRules(t *testing.T) {
	m := newMaker(6)
	counts := map[int]int{}
	for range 1000 {
		m.flawless = true
		l := m.libraries(4)
		_, used := built(t, l)
		m.flawless = false
		x := m.library("m", l)
		if m.Intn(6) == 0 {
			x.text = "patch " + m.pick("a", "b", "m") + " ; " + x.parts["methods"] + m.pick("", x.parts["macros"])
		}
		if m.Intn(3) == 0 {
			x.text = m.hurt(x.text)
		}
		m.Shuffle(len(used), func(i, j int) { used[i], used[j] = used[j], used[i] })
		if m.Intn(8) == 0 {
			used = used[1:]
		}
		s, own, where, e := Front(x.text, used)
		s2, own2, where2, e2 := frontByRules(x.text, used)
		if !same(s, s2) || !same(own, own2) || where != where2 || e != e2 {
			t.Fatalf("Front(%s) = %+v, %s, %v, %d; expected %+v, %s, %v, %d", x.text, s, names(own), where, e, s2, names(own2), where2, e2)
		}
		tokens, _, _ := lex.Scan(x.text)
		if uses, _ := Uses(x.text, used); !same(uses, usesByRules(tokens, used)) {
			t.Fatalf("Uses(%s) = %s", x.text, names(uses))
		}
		want := api.Unit{}
		if e2 == api.OK {
			if want, e2 = compileByRules(s, own, used); e2 != api.OK {
				want, where2 = api.Unit{}, api.Trouble{Layer: 5}
			}
			if u, e := Compile(s, own, used); !same(u, want) || e != e2 {
				t.Fatalf("Compile(%s) = %+v, %d; expected %+v, %d", x.text, u, e, want, e2)
			}
		}
		u, where, e := Build(x.text, used)
		if !same(u, want) || where != where2 || e != e2 {
			t.Fatalf("Build(%s) = %+v, %v, %d; expected %+v, %v, %d", x.text, u, where, e, want, where2, e2)
		}
		if !apart(u, own, used) {
			t.Fatalf("Build(%s) shares memory", x.text)
		}
		if e == api.OK && (CheckUnit(u) != api.OK || !u.Patch && Check(u.Interface) != api.OK) { // P6.8
			t.Fatalf("Build(%s) is not valid: %+v", x.text, u)
		}
		counts[where.Layer]++
	}
	for layer, least := range []int{450, 8, 25, 12, 50, 25} {
		if counts[layer] < least {
			t.Errorf("of the texts, %d are refused by layer %d; there should be %d", counts[layer], layer, least)
		}
	}
}

// links is what units say of each other, by the words of the chapter.
type links struct {
	units []api.Unit
	e     api.Errno
}

func newLinks(units []api.Unit) links {
	l := links{units: units}
	if len(units) > 18 {
		return links{units: units, e: api.ErrLong}
	}
	for i, u := range units {
		if CheckUnit(u) != api.OK {
			return links{units: units, e: api.ErrInterface}
		}
		for _, v := range units[:i] {
			if !u.Patch && !v.Patch && u.Library.Name == v.Library.Name {
				l.e = api.ErrTwin
			}
		}
	}
	return l
}

// find is the index of a library, or -1.
func (l links) find(name string) int {
	return slices.IndexFunc(l.units, func(u api.Unit) bool { return !u.Patch && u.Library.Name == name })
}

// needs is what a unit uses or patches.
func (l links) needs(i int) []string {
	if u := l.units[i]; u.Patch {
		return []string{u.Library.Name}
	}
	return l.units[i].Library.Uses
}

// missing tells whether some unit needs one that is not there.
func (l links) missing() bool {
	for i := range l.units {
		if slices.ContainsFunc(l.needs(i), func(name string) bool { return l.find(name) < 0 }) {
			return true
		}
	}
	return false
}

// reach tells for each two libraries whether the first one uses the other one, directly or not.
func (l links) reach() map[string]map[string]bool {
	far := map[string]map[string]bool{}
	var all []string
	for i, u := range l.units {
		if !u.Patch {
			name := u.Library.Name
			far[name] = map[string]bool{}
			all = append(all, name)
			for _, lib := range l.needs(i) {
				far[name][lib] = true
			}
		}
	}
	for _, over := range all {
		for _, from := range all {
			for _, to := range all {
				if far[from][over] && far[over][to] {
					far[from][to] = true
				}
			}
		}
	}
	return far
}

// inOrder tells whether an order is that of the units.
func (l links) inOrder(order []int) bool {
	ready := func(i int, there []int) bool {
		return !l.units[i].Patch && !slices.Contains(there, i) && !slices.ContainsFunc(l.needs(i), func(name string) bool { return !slices.Contains(there, l.find(name)) })
	}
	for k, i := range order {
		for j := range l.units[:i] {
			if ready(j, order[:k]) {
				return false
			}
		}
		if !ready(i, order[:k]) {
			return false
		}
	}
	libraries := 0
	for _, u := range l.units {
		if !u.Patch {
			libraries++
		}
	}
	return len(order) == libraries
}

func (l links) stale() []int {
	var stale []int
	for i, u := range l.units {
		var against []string
		old := false
		for _, x := range u.Against {
			k := l.find(x.Face.Lib)
			old = old || k < 0 || !Same(x, l.units[k].Interface)
			against = append(against, x.Face.Lib)
		}
		if old || slices.ContainsFunc(l.needs(i), func(name string) bool { return !slices.Contains(against, name) }) {
			stale = append(stale, i)
		}
	}
	return stale
}

// errorOf is the error of Link, and that of Order.
func (l links) errorOf() (link, order api.Errno) {
	loop, main := false, 0
	for name, far := range l.reach() {
		loop = loop || far[name]
	}
	for _, u := range l.units {
		main += len(u.Main)
	}
	switch {
	case l.e != api.OK:
		return l.e, l.e
	case l.missing():
		return api.ErrMissing, api.ErrMissing
	case loop:
		return api.ErrLoop, api.ErrLoop
	case len(l.stale()) > 0:
		return api.ErrStale, api.OK
	case main != 1:
		return api.ErrMain, api.OK
	}
	return api.OK, api.OK
}

// P6.1, P6.3, P6.7
func TestUnitsByRules(t *testing.T) {
	m := newMaker(7)
	counts := map[api.Errno]int{}
	for range 6000 {
		units := m.units()
		l := newLinks(units)
		linkError, orderError := l.errorOf()
		counts[linkError]++
		order, e := Order(units)
		if e != orderError || e == api.OK && !l.inOrder(order) || e != api.OK && order != nil {
			t.Fatalf("Order(%+v) = %v, %d; expected %d", units, order, e, orderError)
		}
		stale, e := Stale(units)
		if e != l.e || e == api.OK && !slices.Equal(stale, l.stale()) || e != api.OK && stale != nil {
			t.Fatalf("Stale(%+v) = %v, %d; expected %v, %d", units, stale, e, l.stale(), l.e)
		}
		checkProgram(t, l, order, linkError)
		checkDepends(t, m, l)
	}
	for e, least := range map[api.Errno]int{api.OK: 200, api.ErrLong: 50, api.ErrInterface: 100, api.ErrTwin: 100, api.ErrMissing: 400, api.ErrLoop: 200, api.ErrStale: 200, api.ErrMain: 400} {
		if counts[e] < least {
			t.Errorf("Link has the error %d %d times; it should have it %d times", e, counts[e], least)
		}
	}
}

func checkProgram(t *testing.T, l links, order []int, want api.Errno) {
	t.Helper()
	p, e := Link(l.units)
	program := api.Program{}
	if want == api.OK {
		for _, i := range order {
			program.Libs = append(program.Libs, l.units[i].Library)
		}
		for _, u := range l.units {
			if u.Patch {
				program.Patches = append(program.Patches, u.Library)
			}
			for _, x := range u.Main {
				program.Main = x
			}
		}
	}
	if e != want || !same(p, program) || !apart(p, l.units) {
		t.Fatalf("Link(%+v) = %+v, %d; expected %+v, %d", l.units, p, e, program, want)
	}
}

func checkDepends(t *testing.T, m *maker, l links) {
	t.Helper()
	name := string(rune('a' + m.Intn(8)))
	want, names := l.e, []string(nil)
	switch {
	case want != api.OK:
	case l.find(name) < 0:
		want = api.ErrNone
	case l.missing():
		want = api.ErrMissing
	default:
		names = slices.Sorted(mapKeys(l.reach()[name]))
	}
	if got, e := Depends(l.units, name); e != want || !slices.Equal(got, names) {
		t.Fatalf("Depends(%+v, %s) = %v, %d; expected %v, %d", l.units, name, got, e, names, want)
	}
}
