package c3

import (
	"slices"
	"strings"
	"testing"

	"skerry/api"
	"skerry/lists"
)

// The chapter's rules once more, by recursion and without any memory of what was found.

// merged merges lists.
func merged(l [][]string) ([]string, bool) {
	l = slices.DeleteFunc(slices.Clone(l), func(names []string) bool { return len(names) == 0 })
	if len(l) == 0 {
		return nil, true
	}
	for _, names := range l {
		if slices.ContainsFunc(l, func(other []string) bool { return slices.Contains(other[1:], names[0]) }) {
			continue
		}
		rest, ok := merged(lists.Each(l, func(other []string) []string {
			if other[0] == names[0] {
				return other[1:]
			}
			return other
		}))
		if !ok {
			return nil, false
		}
		return append([]string{names[0]}, rest...), true
	}
	return nil, false
}

func supersOf(g []api.Heir, name string) []string {
	return g[slices.IndexFunc(g, func(x api.Heir) bool { return x.Name == name })].Supers
}

// listsOf is the precedence lists of a class, if its superclasses have linearizations.
func listsOf(g []api.Heir, name string) ([][]string, bool) {
	var all [][]string
	supers := supersOf(g, name)
	for _, s := range supers {
		l, ok := linearized(g, s)
		if !ok {
			return nil, false
		}
		all = append(all, l)
	}
	return append(all, supers), true
}

func linearized(g []api.Heir, name string) ([]string, bool) {
	all, ok := listsOf(g, name)
	if !ok {
		return nil, false
	}
	l, ok := merged(all)
	if !ok {
		return nil, false
	}
	return append([]string{name}, l...), true
}

// isAncestor tells whether a class has another one as an ancestor.
func isAncestor(g []api.Heir, a, b string) bool {
	return a == b || slices.ContainsFunc(supersOf(g, a), func(s string) bool { return isAncestor(g, s, b) })
}

// ahead tells whether a stands ahead of b in one of some lists.
func ahead(all [][]string, a, b string) bool {
	for _, l := range all {
		for i, x := range l {
			for _, y := range l[i+1:] {
				if x == a && y == b {
					return true
				}
			}
		}
	}
	return false
}

// circular tells whether a list is a cycle of the precedences in some lists.
func circular(all [][]string, l []string) bool {
	for i, a := range l {
		if slices.Contains(l[i+1:], a) || i > 0 && !ahead(all, l[i-1], a) {
			return false
		}
	}
	return len(l) >= 2 && ahead(all, l[len(l)-1], l[0])
}

// hasCycle tells whether some precedences lead from a name back to it: paths are made longer through each name in turn.
func hasCycle(all [][]string) bool {
	names := slices.Concat(all...)
	slices.Sort(names)
	names = slices.Compact(names)
	leads := map[[2]string]bool{}
	for _, a := range names {
		for _, b := range names {
			leads[[2]string{a, b}] = ahead(all, a, b)
		}
	}
	for _, through := range names {
		for _, a := range names {
			for _, b := range names {
				leads[[2]string{a, b}] = leads[[2]string{a, b}] || leads[[2]string{a, through}] && leads[[2]string{through, b}]
			}
		}
	}
	return slices.ContainsFunc(names, func(a string) bool { return leads[[2]string{a, a}] })
}

// isSubsequence tells whether a list without gaps is in another one with gaps.
func isSubsequence(l, of []string) bool {
	for _, name := range of {
		if len(l) > 0 && l[0] == name {
			l = l[1:]
		}
	}
	return len(l) == 0
}

// choices is all lists of different ones among some names.
func choices(names []string) [][]string {
	l := [][]string{nil}
	for i, name := range names {
		rest := slices.Concat(names[:i], names[i+1:])
		for _, more := range choices(rest) {
			l = append(l, append([]string{name}, more...))
		}
	}
	return l
}

// everyHierarchy calls f with each hierarchy of n classes that are named a, b, c and so on.
func everyHierarchy(n int, f func(g []api.Heir)) {
	names := strings.Split("abcdefgh"[:n], "")
	var extend func(g []api.Heir)
	extend = func(g []api.Heir) {
		if len(g) == n {
			f(g)
			return
		}
		for _, supers := range choices(names[:len(g)]) {
			extend(append(slices.Clip(g), api.Heir{Name: names[len(g)], Supers: supers}))
		}
	}
	extend(nil)
}

// sequences is all lists of up to n of some names, also those with a name twice.
func sequences(names []string, n int) [][]string {
	l := [][]string{nil}
	if n == 0 {
		return l
	}
	for _, shorter := range sequences(names, n-1) {
		for _, name := range names {
			l = append(l, append(slices.Clip(shorter), name))
		}
	}
	return l
}

// checkClass holds what the functions say of a class against the rules.
func checkClass(t *testing.T, g []api.Heir, name string) {
	t.Helper()
	var above []string
	for _, x := range g {
		is := isAncestor(g, name, x.Name)
		if is {
			above = append(above, x.Name)
		}
		if Below(g, name, x.Name) != is {
			t.Fatalf("%v: Below(%s, %s) = %t", g, name, x.Name, !is)
		}
	}
	if l, e := Ancestors(g, name); e != api.OK || !slices.Equal(l, above) {
		t.Fatalf("%v: Ancestors(%s) = %v, %d; expected %v", g, name, l, e, above)
	}
	want, ok := linearized(g, name)
	l, e := Linearize(g, name)
	if (e == api.OK) != ok || !ok && e != api.ErrC3 || !slices.Equal(l, want) {
		t.Fatalf("%v: Linearize(%s) = %v, %d; expected %v", g, name, l, e, want)
	}
	all, known := listsOf(g, name)
	m, e := Lists(g, name)
	if (e == api.OK) != known || !known && e != api.ErrC3 || !sameRows(m, all) {
		t.Fatalf("%v: Lists(%s) = %v, %d; expected %v", g, name, m, e, all)
	}
	cycle, e := Cycle(g, name)
	switch {
	case !known:
		ok = e == api.ErrC3 && cycle == nil
	case ok:
		ok = e == api.ErrNone && cycle == nil
	default:
		ok = e == api.OK && circular(all, cycle) && VerifyCycle(g, name, cycle) == api.OK
	}
	if !ok {
		t.Fatalf("%v: Cycle(%s) = %v, %d, with the precedence lists %v", g, name, cycle, e, all)
	}
}

// checkAll holds what All says of a hierarchy against the rules.
func checkAll(t *testing.T, g []api.Heir) {
	t.Helper()
	var want [][]string
	at, e := 0, api.OK
	for i, x := range g {
		l, ok := linearized(g, x.Name)
		if !ok {
			want, at, e = nil, i, api.ErrC3
			break
		}
		want = append(want, l)
	}
	if all, index, f := All(g); f != e || index != at || !sameRows(all, want) {
		t.Fatalf("%v: All = %v, %d, %d; expected %v, %d, %d", g, all, index, f, want, at, e)
	}
}

// All hierarchies of up to five classes, and some larger ones.
func TestByTheRules(t *testing.T) {
	for n := range 6 {
		everyHierarchy(n, func(g []api.Heir) {
			checkAll(t, g)
			if n > 0 {
				checkClass(t, g, g[n-1].Name) // those ahead of the last one are in shorter hierarchies
			}
		})
	}
	m := newMaker(70)
	for range 1500 {
		g := m.hierarchy(12)
		checkAll(t, g)
		for _, x := range g {
			checkClass(t, g, x.Name)
		}
	}
}

// All lists of up to three lists of three names, also those with a name twice, and some longer ones.
func TestMergeByTheRules(t *testing.T) {
	check := func(l [][]string) {
		want, ok := merged(l)
		distinct := lists.All(l, func(names []string) bool { return lists.Distinct(names, lists.Itself) })
		if got, is := Merge(l); is != (ok && distinct) || !slices.Equal(got, want) {
			t.Fatalf("Merge(%v) = %v, %t; expected %v, %t", l, got, is, want, ok)
		}
	}
	all := sequences(strings.Fields("a b c"), 3)
	for _, x := range all {
		check([][]string{x})
		for _, y := range all {
			check([][]string{x, y})
			for _, z := range all {
				check([][]string{x, y, z})
			}
		}
	}
	m := newMaker(72)
	for range 5000 {
		check(m.lists(20, 8))
	}
}

// VerifyCycle of all lists of names of all hierarchies of four classes, and of those that have a name that is not there.
func TestVerifyCycleByTheRules(t *testing.T) {
	found := 0
	check := func(g []api.Heir, name string, l []string) {
		all, known := listsOf(g, name)
		want := api.OK
		switch {
		case !known:
			want = api.ErrC3
		case !circular(all, l):
			want = api.ErrCycle
		default:
			found++
		}
		if e := VerifyCycle(g, name, l); e != want {
			t.Fatalf("%v: VerifyCycle(%s, %v) = %d; expected %d", g, name, l, e, want)
		}
	}
	everyHierarchy(4, func(g []api.Heir) {
		for _, l := range sequences(strings.Fields("a b c d x"), 4) {
			check(g, "d", l)
		}
	})
	m := newMaker(73)
	for range 6000 {
		g := m.hierarchy(10)
		for _, x := range g {
			check(g, x.Name, m.some(lists.Each(g, nameOf), 4))
			if all, ok := listsOf(g, x.Name); ok {
				names := slices.Concat(all...)
				check(g, x.Name, m.some(names, 2))
				check(g, x.Name, m.some(names, 3))
			}
		}
	}
	if found < 500 {
		t.Errorf("only %d cycles", found)
	}
}

// Verify and Precedes say of the linearization what Linearize says.
func TestVerifyByTheRules(t *testing.T) {
	m := newMaker(74)
	for range 500 {
		g := m.hierarchy(8)
		names := lists.Each(g, nameOf)
		for _, name := range names {
			l, ok := linearized(g, name)
			if !ok {
				continue
			}
			for _, other := range [][]string{l, m.some(names, len(l)), m.shuffled(l), l[1:], append(slices.Clip(l), names[0])} {
				want := api.ErrOrder
				if slices.Equal(other, l) {
					want = api.OK
				}
				if e := Verify(g, name, other); e != want {
					t.Fatalf("%v: Verify(%s, %v) = %d; expected %d", g, name, other, e, want)
				}
			}
			for _, a := range names {
				for _, b := range names {
					i, k := slices.Index(l, a), slices.Index(l, b)
					is, e := Precedes(g, name, a, b)
					if in := i >= 0 && k >= 0; is != (in && i < k) || in != (e == api.OK) || !in && e != api.ErrArg {
						t.Fatalf("%v: Precedes(%s, %s, %s) = %t, %d; the linearization is %v", g, name, a, b, is, e, l)
					}
				}
			}
		}
	}
}
