package c3

import (
	"math/rand"
	"slices"

	"skerry/api"
	"skerry/lists"
)

// maker makes hierarchies and lists by chance.
type maker struct {
	*rand.Rand
}

func newMaker(seed int64) *maker {
	return &maker{rand.New(rand.NewSource(seed))}
}

func (m *maker) shuffled(l []string) []string {
	l = slices.Clone(l)
	m.Shuffle(len(l), func(i, j int) { l[i], l[j] = l[j], l[i] })
	return l
}

// some is up to n of some names, rarely one twice.
func (m *maker) some(names []string, n int) []string {
	l := m.shuffled(names)
	if m.Intn(4) > 0 {
		l = lists.Firsts(l, lists.Itself)
	}
	return l[:min(len(l), m.Intn(n+1))]
}

// extended is a hierarchy with up to n further classes, of which most have a linearization.
func (m *maker) extended(g []api.Heir, n int) []api.Heir {
	g = copied(g)
	for _, name := range m.shuffled(numbered(len(g), m.Intn(n+1))) {
		var supers []string
		for range min(len(g), m.Intn(4)) {
			supers = append(supers, g[m.Intn(len(g))].Name)
		}
		supers = lists.Firsts(supers, lists.Itself)
		if m.Intn(3) > 0 { // the later ones first, as this mostly suits the linearizations of all of them
			at := func(name string) int { return slices.IndexFunc(g, func(x api.Heir) bool { return x.Name == name }) }
			slices.SortFunc(supers, func(a, b string) int { return at(b) - at(a) })
		}
		g = append(g, api.Heir{Name: name, Supers: supers})
	}
	return g
}

// hierarchy is one of up to n classes.
func (m *maker) hierarchy(n int) []api.Heir {
	return m.extended(nil, n)
}

// lists is up to n lists of up to so many names, which are mostly in one order.
func (m *maker) lists(n, names int) [][]string {
	var l [][]string
	all := numbered(0, names)
	order := m.shuffled(all)
	for range m.Intn(n + 1) {
		chosen := m.shuffled(all)[:m.Intn(names+1)]
		if m.Intn(20) > 0 {
			slices.SortFunc(chosen, func(a, b string) int { return slices.Index(order, a) - slices.Index(order, b) })
		}
		l = append(l, chosen)
	}
	return l
}
