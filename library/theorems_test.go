package library

import (
	"slices"
	"strings"
	"testing"

	"skerry/api"
	"skerry/copies"
	"skerry/lex"
	"skerry/lists"
	"skerry/syntax"
)

// alike tells whether two units are the same, but for where in texts the tokens of the macros are against which they were compiled.
func alike(u, v api.Unit) bool {
	against := slices.EqualFunc(u.Against, v.Against, Same)
	u.Against, v.Against = nil, nil
	return against && same(u, v)
}

// spread is a text with other gaps between its tokens.
func (m *maker) spread(text string) string {
	for _, token := range []string{";", "=>", "}", "("} {
		text = strings.ReplaceAll(text, " "+token+" ", " "+token+m.pick("  ", "\n", " // gap\n", " /* gap */ "))
	}
	return text
}

// other makes another text of a library, with other bodies, that shows the same to others.
func (m *maker) other(x library) string {
	body := x.parts["defs"]
	if i := strings.Index(body, " ; define generic"); i >= 0 {
		body = "define constant k-" + x.name + " = " + m.expr(nil, x.names[1:], 3) + body[i:]
	}
	parts := []string{x.parts["export"] + x.parts["macros"], body, m.methods(x, nil)}
	if m.Intn(2) == 0 { // a macro may be defined anywhere
		parts = []string{x.parts["export"], body, x.parts["macros"], m.methods(x, nil)}
	}
	return m.spread(x.parts["head"] + strings.Join(parts, "") + m.pick("", m.expr(nil, x.names, 2)))
}

// P6.2
func TestApart(t *testing.T) {
	m := newMaker(62)
	m.flawless = true
	compiled := 0
	for range 300 {
		l := m.libraries(4)
		units, used := built(t, l)
		for i, x := range l {
			text := m.other(x)
			changed := build(t, text, used[:i]...)
			if !Same(changed.Interface, used[i]) || !Same(used[i], changed.Interface) {
				t.Fatalf("the interface of %s is not that of %s", x.text, text)
			}
			after, others := slices.Clone(units), slices.Clone(used)
			after[i], others[i] = changed, changed.Interface
			if stale, e := Stale(after); e != api.OK || len(stale) > 0 {
				t.Fatalf("with %s for %s Stale = %v, %d", text, x.text, stale, e)
			}
			for k := range l {
				if k == i || !slices.Contains(l[k].uses, x.name) {
					continue
				}
				compiled++
				if again := build(t, l[k].text, others[:k]...); !alike(again, units[k]) {
					t.Fatalf("with %s for %s the unit of %s is %+v; expected %+v", text, x.text, l[k].text, again, units[k])
				}
			}
		}
	}
	if compiled < 500 {
		t.Errorf("only %d units were compiled again", compiled)
	}
}

// behind tells whether each library of a program stands behind all that it uses.
func behind(l []api.Library) bool {
	there := map[string]bool{}
	for _, x := range l {
		for _, lib := range x.Uses {
			if !there[lib] {
				return false
			}
		}
		there[x.Name] = true
	}
	return true
}

// P6.3
func TestOrders(t *testing.T) {
	m := newMaker(63)
	m.flawless = true
	for range 1500 {
		units := m.units()
		if len(units) > api.MaxUnits {
			continue
		}
		order, e := Order(units)
		at := func(i int) api.Library { return units[i].Library }
		if e != api.OK || !behind(lists.Each(order, at)) {
			t.Fatalf("Order(%+v) = %v, %d", units, order, e)
		}
		sorted := func(order []int, units []api.Unit) []string {
			l := lists.Each(order, func(i int) string { return units[i].Library.Name })
			slices.Sort(l)
			return l
		}
		shuffled := slices.Clone(units)
		m.Shuffle(len(units), func(i, j int) { shuffled[i], shuffled[j] = shuffled[j], shuffled[i] })
		again, e := Order(shuffled)
		if e != api.OK || !slices.Equal(sorted(order, units), sorted(again, shuffled)) {
			t.Fatalf("Order(%+v) = %v, %d; of the units in another order %v", shuffled, again, e, order)
		}
		// in the order in which they are loaded the libraries stay where they are
		loaded := lists.Each(again, func(i int) api.Unit { return shuffled[i] })
		straight, e := Order(loaded)
		if e != api.OK || !slices.IsSorted(straight) || len(straight) != len(loaded) {
			t.Fatalf("Order(%+v) = %v, %d", loaded, straight, e)
		}
	}
}

// P6.4
func TestLinked(t *testing.T) {
	m := newMaker(64)
	m.flawless = true
	for range 200 {
		l := m.libraries(5)
		var used []api.Interface
		var units []api.Unit
		for _, x := range l {
			mine := slices.DeleteFunc(slices.Clone(used), func(i api.Interface) bool { return !slices.Contains(x.uses, libOf(i)) })
			units = append(units, build(t, x.text, mine...))
			used = append(used, units[len(units)-1].Interface)
		}
		units = append(units, build(t, "patch b; define method g-b (o) o end;", used[1]))
		for i := range units {
			units[i].Main = nil
		}
		units[m.Intn(5)].Main = []api.Expr{{Kind: api.ExNum}}
		m.Shuffle(len(units), func(i, j int) { units[i], units[j] = units[j], units[i] })
		stale, e := Stale(units)
		p, linked := Link(units)
		if e != api.OK || len(stale) > 0 || linked != api.OK || len(p.Libs) != 5 || !behind(p.Libs) {
			t.Fatalf("Stale(%+v) = %v, %d; Link has %d", units, stale, e, linked)
		}
		for i, u := range units {
			if !u.Patch {
				replaceOne(t, units, i)
			}
		}
	}
}

// replaceOne replaces the interface of a unit by others, and expects those to be stale that were compiled against it.
func replaceOne(t *testing.T, units []api.Unit, i int) {
	t.Helper()
	var want []int
	for k, u := range units {
		if slices.Contains(lists.Each(u.Against, libOf), units[i].Library.Name) {
			want = append(want, k)
		}
	}
	for _, change := range []func(i *api.Interface){
		func(i *api.Interface) { i.Face.Names = i.Face.Names[1:] },
		func(i *api.Interface) { slices.Reverse(i.Whole.Names) },
		func(i *api.Interface) {
			i.Macros = append(i.Macros, api.Macro{Name: "new", Rules: make([]api.MacroRule, 1)})
		},
		func(i *api.Interface) {
			i.Whole.Names = append(i.Whole.Names, api.Export{Name: "new", Full: "new@new", Kind: api.DfConst})
		},
	} {
		after := slices.Clone(units)
		after[i].Interface = changed(units[i].Interface, change)
		if stale, e := Stale(after); e != api.OK || !slices.Equal(stale, want) {
			t.Fatalf("Stale(%+v) = %v, %d; expected %v", after, stale, e, want)
		}
	}
}

// P6.5: a text without macros is parsed as it is.
func TestSameFront(t *testing.T) {
	m := newMaker(65)
	m.flawless = true
	both := 0
	for range 1000 {
		x := m.library("m", m.libraries(2))
		text := x.parts["head"] + x.parts["export"] + "define constant k = " + m.expr(nil, x.names, 4) + " ; define method f ( o ) " + m.expr(nil, x.names, 4) + " end ; " + m.expr(nil, x.names, 4)
		if m.Intn(2) == 0 {
			text = m.hurt(text)
		}
		tokens, _, _ := lex.Scan(text)
		want, _, parsed := syntax.ParseTokens(tokens)
		s, own, where, e := Front(text, nil)
		if parsed == api.OK && e == api.OK {
			both++
		}
		if parsed == api.OK && (e != api.OK || len(own) > 0 || where != (api.Trouble{}) || !same(s, want)) {
			t.Fatalf("Front(%s) = %+v, %v, %d; expected %+v", text, s, where, e, want)
		}
	}
	if both < 500 {
		t.Errorf("only %d texts have no error", both)
	}
}

// pair makes an expression with calls, and the same in which they are written as their expansions.
func (m *maker) pair(macros map[string]string, depth int) (string, string) {
	if depth == 0 {
		leaf := m.pick("1", "2", "x", "y ( z )")
		return leaf, leaf
	}
	a, b := m.pair(macros, depth-1)
	c, d := m.pair(macros, depth-1)
	if m.Intn(3) == 0 {
		op := m.pick(" + ", " * ", " ; ")
		return "begin " + a + op + c + " end", "begin " + b + op + d + " end"
	}
	name := m.pick(slices.Sorted(mapKeys(map[string]bool{"one": true, "two": true, "three": true}))...)
	return name + " ( " + a + " , " + c + " )", strings.NewReplacer("?a", b, "?b", d).Replace(macros[name])
}

// P6.5: a call of a function macro is like its expansion.
func TestExpanded(t *testing.T) {
	m := newMaker(165)
	macros := map[string]string{"one": "?a + ?b", "two": "( ?b ) - if ( ?a ) ?a end", "three": "begin ?a ; 4 ; ?b end * 3"}
	text := ""
	for _, name := range []string{"one", "two", "three"} {
		text += "define macro " + name + " { " + name + " ( ?a:expression , ?b:expression ) } => { " + macros[name] + " } end ; "
	}
	used := []api.Interface{shown(t, "library l ; "+text)}
	for range 1000 {
		call, expansion := m.pair(macros, 1+m.Intn(4))
		want, _, _, e := Front("library m ; use l ; "+expansion, nil)
		if e != api.OK {
			t.Fatalf("Front(%s) = %d", expansion, e)
		}
		got, _, _, e := Front("library m ; use l ; "+call, used)
		mine, _, _, e2 := Front("library m ; use l ; "+text+call, nil)
		if e != api.OK || e2 != api.OK || !same(got, want) || !same(mine, want) {
			t.Fatalf("Front(%s) = %+v, %d; expected %+v as of %s", call, got, e, want, expansion)
		}
	}
}

// P6.6
func TestHidden(t *testing.T) {
	m := newMaker(66)
	hidden := 0
	for range 400 {
		m.flawless = true
		l := m.libraries(4)
		_, used := built(t, l)
		m.flawless = false
		x := m.library("m", l)
		if m.Intn(4) == 0 {
			x.text = m.hurt(x.text)
		}
		s, own, where, e := Front(x.text, used)
		without := slices.Clone(used)
		for i := range without {
			mine := func(m api.Macro) bool { return slices.Contains(lists.Each(own, macroName), m.Name) }
			n := len(without[i].Macros)
			without[i].Macros = slices.DeleteFunc(slices.Clone(without[i].Macros), mine)
			hidden += n - len(without[i].Macros)
		}
		s2, own2, where2, e2 := Front(x.text, without)
		if !same(s, s2) || !same(own, own2) || where != where2 || e != e2 {
			t.Fatalf("Front(%s) = %+v, %v, %d; without what it hides %+v, %v, %d", x.text, s, where, e, s2, where2, e2)
		}
		further := slices.Insert(slices.Clone(used), m.Intn(len(used)+1), shown(t, "library z ; export k-a ; define constant k-a = 1 ; "+incText+unless))
		u, where, e := Build(x.text, used)
		u2, where2, e2 := Build(x.text, further)
		if !same(u, u2) || where != where2 || e != e2 {
			t.Fatalf("Build(%s) = %+v, %v, %d; with a further interface %+v, %v, %d", x.text, u, where, e, u2, where2, e2)
		}
	}
	if hidden < 200 {
		t.Errorf("only %d macros are hidden", hidden)
	}
}

// P6.7
func TestDependencies(t *testing.T) {
	m := newMaker(67)
	loops := 0
	for range 3000 {
		units := m.units()
		order, e := Order(units)
		if e != api.OK && e != api.ErrLoop {
			continue
		}
		itself := false
		for _, u := range units {
			if u.Patch {
				continue
			}
			l, e := Depends(units, u.Library.Name)
			if e != api.OK || !slices.IsSorted(l) || len(slices.Compact(slices.Clone(l))) != len(l) {
				t.Fatalf("Depends(%+v, %s) = %v, %d", units, u.Library.Name, l, e)
			}
			itself = itself || slices.Contains(l, u.Library.Name)
			for _, lib := range u.Library.Uses {
				further, _ := Depends(units, lib)
				for _, name := range append(further, lib) {
					if !slices.Contains(l, name) {
						t.Fatalf("Depends(%+v, %s) = %v, without %s", units, u.Library.Name, l, name)
					}
				}
			}
		}
		if itself != (e == api.ErrLoop) {
			t.Fatalf("Order(%+v) = %v, %d, and a library depends on itself: %t", units, order, e, itself)
		}
		if itself {
			loops++
		}
	}
	if loops < 100 {
		t.Errorf("only %d lists of units have loops", loops)
	}
}

// P6.8
func TestEquivalence(t *testing.T) {
	m := newMaker(68)
	m.flawless = true
	equals := 0
	for range 60 {
		var l []api.Interface
		for range 6 {
			x := m.library("a", nil)
			i := shown(t, x.text)
			l = append(l, i, shown(t, m.other(x)), changed(i, func(i *api.Interface) {
				if len(i.Macros) > 0 {
					i.Macros[0].Rules[0].Template = lists.Each(i.Macros[0].Rules[0].Template, copies.Frag)[1:]
				}
			}))
		}
		for _, a := range l {
			if e := Check(a); e == api.OK && !Same(a, a) {
				t.Fatalf("Same(%+v, itself) = false", a)
			}
			for _, b := range l {
				if Same(a, b) != Same(b, a) {
					t.Fatalf("Same(%+v, %+v) is not that of the same in another order", a, b)
				}
				if Same(a, b) {
					equals++
					for _, c := range l {
						if Same(a, c) != Same(b, c) {
							t.Fatalf("Same is not transitive for %+v, %+v, %+v", a, b, c)
						}
					}
				}
			}
		}
	}
	if equals < 1000 {
		t.Errorf("only %d pairs are the same", equals)
	}
}
