package c3

import (
	"iter"

	"skerry/api"
	"skerry/lists"
)

// impossible is what linearizing panics with at a class whose precedence lists cannot be merged.
type impossible struct {
	at int // the index of the class
}

// hierarchy is classes, with the linearizations that were found so far.
type hierarchy struct {
	heirs []api.Heir
	at    map[string]int      // the indices of the heirs, by their names
	known map[string][]string // the linearizations, by the names of the heirs
}

func hierarchyOf(g []api.Heir) *hierarchy {
	h := &hierarchy{heirs: g, at: map[string]int{}, known: map[string][]string{}}
	for i, x := range g {
		h.at[x.Name] = i
	}
	return h
}

// find returns a valid hierarchy, and the index of the heir with a name.
func find(g []api.Heir, name string) (*hierarchy, int, api.Errno) {
	if e := Check(g); e != api.OK {
		return nil, 0, e
	}
	h := hierarchyOf(g)
	at, ok := h.at[name]
	if !ok {
		return nil, 0, api.ErrNone
	}
	return h, at, api.OK
}

// areSupers tells whether a class may have some superclasses, if others stand ahead of it.
func areSupers(l []string, ahead map[string]bool) bool {
	known := func(name string) bool { return ahead[name] }
	return len(l) <= api.MaxSupers && lists.All(l, known) && lists.Distinct(l, lists.Itself)
}

// ancestors is the set of the ancestors of a class. A single walk to the front finds all, as superclasses stand ahead of their heirs.
func (h *hierarchy) ancestors(at int) map[string]bool {
	above := map[string]bool{h.heirs[at].Name: true}
	for i := at; i >= 0; i-- {
		x := h.heirs[i]
		if !above[x.Name] {
			continue
		}
		for _, s := range x.Supers {
			above[s] = true
		}
	}
	return above
}

// precedences yields the precedence lists of a class.
func (h *hierarchy) precedences(at int) iter.Seq[[]string] {
	return func(yield func([]string) bool) {
		supers := h.heirs[at].Supers
		for _, s := range supers {
			if !yield(h.linearization(h.at[s])) {
				return
			}
		}
		yield(supers)
	}
}

// linearization returns the linearization of a class. It leaves at a class whose precedence lists cannot be merged.
func (h *hierarchy) linearization(at int) []string {
	name := h.heirs[at].Name
	if l, ok := h.known[name]; ok {
		return l
	}
	merged, ok := newMerger(h.precedences(at)).merge()
	if !ok {
		panic(impossible{at})
	}
	l := append([]string{name}, merged...)
	h.known[name] = l
	return l
}
