package c3

import (
	"slices"
	"strconv"
	"strings"
	"testing"

	"skerry/api"
	"skerry/lists"
)

// each calls f with classes of hierarchies made by chance, and of all those of four classes.
func each(seed int64, times, size int, f func(g []api.Heir, name string)) {
	m := newMaker(seed)
	for range times {
		g := m.hierarchy(size)
		for _, x := range g {
			f(g, x.Name)
		}
	}
	everyHierarchy(4, func(g []api.Heir) { f(g, "d") })
}

// P7.6
func TestOrder(t *testing.T) {
	found := 0
	each(76, 1000, 16, func(g []api.Heir, name string) {
		l, e := Linearize(g, name)
		if e != api.OK {
			return
		}
		found++
		above, _ := Ancestors(g, name)
		sorted := slices.Sorted(slices.Values(l))
		slices.Sort(above)
		if l[0] != name || !slices.Equal(sorted, above) {
			t.Fatalf("%v: the linearization of %s is %v, and its ancestors are %v", g, name, l, above)
		}
		all, e := Lists(g, name)
		if e != api.OK || !lists.All(all, func(x []string) bool { return isSubsequence(x, l) }) {
			t.Fatalf("%v: the linearization of %s is %v, with the precedence lists %v, %d", g, name, l, all, e)
		}
		for i, a := range l {
			for _, b := range l[:i] {
				if Below(g, a, b) {
					t.Fatalf("%v: in the linearization %v of %s the class %s stands behind %s", g, l, name, a, b)
				}
			}
		}
	})
	if found < 4000 {
		t.Errorf("only %d linearizations", found)
	}
}

// P7.7
func TestImpossible(t *testing.T) {
	found := 0
	each(77, 4000, 12, func(g []api.Heir, name string) {
		all, e := Lists(g, name)
		if e != api.OK {
			return
		}
		_, linear := Linearize(g, name)
		cycle, e := Cycle(g, name)
		if !hasCycle(all) {
			if linear != api.OK || e != api.ErrNone {
				t.Fatalf("%v: Linearize(%s) = %d, Cycle = %d; the precedence lists %v have no cycle", g, name, linear, e, all)
			}
			return
		}
		found++
		if linear != api.ErrC3 || e != api.OK || !circular(all, cycle) || VerifyCycle(g, name, cycle) != api.OK {
			t.Fatalf("%v: Linearize(%s) = %d, Cycle = %v, %d; the precedence lists %v have a cycle", g, name, linear, cycle, e, all)
		}
	})
	if found < 500 {
		t.Errorf("only %d cycles", found)
	}
}

// P7.8
func TestExtension(t *testing.T) {
	m := newMaker(78)
	for range 1500 {
		g := m.hierarchy(10)
		longer := m.extended(g, 10)
		for _, x := range g {
			l, e := Linearize(g, x.Name)
			if again, f := Linearize(longer, x.Name); f != e || !slices.Equal(again, l) {
				t.Fatalf("%v: Linearize(%s) = %v, %d; with further heirs in %v %v, %d", g, x.Name, l, e, longer, again, f)
			}
		}
		all, at, e := All(g)
		further, index, f := All(longer)
		if e != api.OK && (f != e || index != at) || f == api.OK && !sameRows(further[:len(g)], all) {
			t.Fatalf("All(%v) = %v, %d, %d; of %v %v, %d, %d", g, all, at, e, longer, further, index, f)
		}
	}
}

// renaming is other names for the classes of a hierarchy: of each other, or some that are odd.
func (m *maker) renaming(g []api.Heir) map[string]string {
	names := lists.Each(g, nameOf)
	others := m.shuffled(names)
	if m.Intn(2) == 0 {
		for i := range others {
			others[i] = m.pick(" ", "\x00", "<", "\xff@", "name-", ";") + strconv.Itoa(i)
		}
	}
	to := map[string]string{}
	for i, name := range names {
		to[name] = others[i]
	}
	return to
}

func (m *maker) pick(l ...string) string {
	return l[m.Intn(len(l))]
}

// P7.9
func TestRenaming(t *testing.T) {
	m := newMaker(79)
	for range 1500 {
		g := m.hierarchy(12)
		to := m.renaming(g)
		rename := func(name string) string { return to[name] }
		h := lists.Each(g, func(x api.Heir) api.Heir {
			return api.Heir{Name: rename(x.Name), Supers: lists.Each(x.Supers, rename)}
		})
		for _, x := range g {
			l, e := Linearize(g, x.Name)
			if renamed, f := Linearize(h, rename(x.Name)); f != e || !slices.Equal(renamed, lists.Each(l, rename)) {
				t.Fatalf("%v: Linearize(%s) = %v, %d; renamed to %v %v, %d", g, x.Name, l, e, h, renamed, f)
			}
		}
	}
}

// P7.10
func TestChains(t *testing.T) {
	m := newMaker(710)
	for range 1000 {
		g := lists.Each(m.hierarchy(40), func(x api.Heir) api.Heir {
			return api.Heir{Name: x.Name, Supers: x.Supers[:min(1, len(x.Supers))]}
		})
		for _, x := range g {
			chain := []string{x.Name}
			for s := x.Supers; len(s) > 0; s = supersOf(g, s[0]) {
				chain = append(chain, s[0])
			}
			if l, e := Linearize(g, x.Name); e != api.OK || !slices.Equal(l, chain) {
				t.Fatalf("%v: Linearize(%s) = %v, %d; expected %v", g, x.Name, l, e, chain)
			}
		}
	}
}

// P7.10
func TestTwins(t *testing.T) {
	m := newMaker(711)
	for range 1000 {
		g := m.hierarchy(12)
		for _, x := range g {
			h := append(slices.Clip(g), api.Heir{Name: "twin", Supers: x.Supers})
			l, e := Linearize(h, x.Name)
			twin, f := Linearize(h, "twin")
			if e == api.OK {
				l[0] = "twin"
			}
			if e != f || !slices.Equal(l, twin) {
				t.Fatalf("%v: Linearize(%s) = %v, %d; of a twin %v, %d", g, x.Name, l, e, twin, f)
			}
		}
	}
}

// P7.11
func TestMergeAgain(t *testing.T) {
	m := newMaker(712)
	found := 0
	for range 3000 {
		single := m.shuffled(numbered(0, m.Intn(api.MaxClasses+1)))
		if l, ok := Merge([][]string{single}); !ok || !slices.Equal(l, single) {
			t.Fatalf("Merge of %v = %v, %t", single, l, ok)
		}
		l := m.lists(api.MaxLists-1, 10)
		result, ok := Merge(l)
		if !ok {
			continue
		}
		found++
		for range 5 {
			further := slices.DeleteFunc(slices.Clone(result), func(string) bool { return m.Intn(3) == 0 })
			if again, ok := Merge(append(slices.Clip(l), further)); !ok || !slices.Equal(again, result) {
				t.Fatalf("Merge of %v = %v; with %v %v, %t", l, result, further, again, ok)
			}
		}
	}
	if found < 1000 {
		t.Errorf("only %d results", found)
	}
	if again, ok := Merge(rows("(b)(a)(a b)")); !ok || !slices.Equal(again, strings.Fields("a b")) { // (b a) is the result without the last list, which is no subsequence of it
		t.Errorf("Merge with a further list = %v, %t", again, ok)
	}
}
