package c3

import (
	"slices"
	"strconv"
	"strings"

	"skerry/api"
	"skerry/lists"
)

// example is the hierarchy of the chapter.
const example = "o; a o; b o; c a b; d b a; e c d; x o; y a x"

// ring has a class w whose only cycles of precedences have three names.
const ring = "a; b; c; x a b; y b c; z c a; w x y z"

// heirs is a hierarchy that is written as its classes, each with its superclasses, with semicolons between them.
func heirs(text string) []api.Heir {
	var g []api.Heir
	for _, class := range strings.Split(text, ";") {
		if names := strings.Fields(class); len(names) > 0 {
			g = append(g, api.Heir{Name: names[0], Supers: names[1:]})
		}
	}
	return g
}

// rows is lists that are written as their names in parentheses.
func rows(text string) [][]string {
	parts := strings.Split(text, ")")
	inner := func(part string) []string { return strings.Fields(strings.TrimLeft(part, " (")) }
	return lists.Each(parts[:len(parts)-1], inner)
}

// sameRows tells whether two lists of lists are equal.
func sameRows(l, m [][]string) bool {
	return slices.EqualFunc(l, m, slices.Equal)
}

// copied is a copy of a hierarchy.
func copied(g []api.Heir) []api.Heir {
	return lists.Each(g, func(x api.Heir) api.Heir { return api.Heir{Name: x.Name, Supers: slices.Clone(x.Supers)} })
}

// copiedRows is a copy of lists.
func copiedRows(l [][]string) [][]string {
	return lists.Each(l, slices.Clone)
}

func sameHeirs(g, h []api.Heir) bool {
	return slices.EqualFunc(g, h, func(x, y api.Heir) bool { return x.Name == y.Name && slices.Equal(x.Supers, y.Supers) })
}

// numbered is n names, from a number on.
func numbered(first, n int) []string {
	var l []string
	for i := range n {
		l = append(l, "n"+strconv.Itoa(first+i))
	}
	return l
}

// roots is n classes without superclasses.
func roots(n int) []api.Heir {
	return lists.Each(numbered(0, n), func(name string) api.Heir { return api.Heir{Name: name} })
}

// tower is n classes each of which has those ahead of it as its superclasses, the last one first, but never more than width.
func tower(n, width int) []api.Heir {
	g := roots(n)
	for i := range g {
		for k := i - 1; k >= max(0, i-width); k-- {
			g[i].Supers = append(g[i].Supers, g[k].Name)
		}
	}
	return g
}

// nameOf is the name of a class.
func nameOf(x api.Heir) string { return x.Name }
