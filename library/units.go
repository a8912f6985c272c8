package library

import (
	"maps"
	"slices"

	"skerry/api"
	"skerry/copies"
	"skerry/lists"
)

// part is a unit among others, with the fields of its library as its own.
type part struct {
	api.Unit
	api.Library
}

func partOf(u api.Unit) part {
	return part{u, u.Library}
}

func (p part) isValid() bool {
	if p.Name == "" || checkAll(p.Against) != api.OK {
		return false
	}
	if p.Patch {
		return len(p.Main) == 0 && len(p.Uses) == 0 && equal(p.Interface, api.Interface{})
	}
	return len(p.Main) <= 1 && isInterface(p.Interface) && libOf(p.Interface) == p.Name
}

// needs yields the names of the libraries that a unit uses, each once, or of the one that it patches.
func (p part) needs(yield func(string) bool) {
	libs := lists.Firsts(p.Uses, lists.Itself)
	if p.Patch {
		libs = []string{p.Name}
	}
	for _, lib := range libs {
		if !yield(lib) {
			return
		}
	}
}

// needsOnly tells whether all that a unit needs is among some libraries.
func (p part) needsOnly(libs map[string]bool) bool {
	for lib := range p.needs {
		if !libs[lib] {
			return false
		}
	}
	return true
}

// needed is the interfaces of the libraries that a unit needs.
func (p part) needed(used []api.Interface) []api.Interface {
	libs := map[string]bool{}
	for lib := range p.needs {
		libs[lib] = true
	}
	var l []api.Interface
	for _, i := range used {
		if libs[libOf(i)] {
			l = append(l, i)
		}
	}
	return l
}

// assembly is units that are put together.
type assembly struct {
	parts []part
	libs  map[string]int // the indices of the units that are no patches, by their names
}

// assemble returns the assembly of valid units with different libraries.
func assemble(units []api.Unit) (*assembly, api.Errno) {
	if len(units) > api.MaxUnits {
		return nil, api.ErrLong
	}
	a := &assembly{parts: lists.Each(units, partOf), libs: map[string]int{}}
	if !lists.All(a.parts, part.isValid) {
		return nil, api.ErrInterface
	}
	for i, p := range a.parts {
		if p.Patch {
			continue
		}
		if _, ok := a.libs[p.Name]; ok {
			return nil, api.ErrTwin
		}
		a.libs[p.Name] = i
	}
	return a, api.OK
}

// complete tells whether all libraries that units need are among them.
func (a *assembly) complete() bool {
	there := map[string]bool{}
	for lib := range a.libs {
		there[lib] = true
	}
	return lists.All(a.parts, func(p part) bool { return p.needsOnly(there) })
}

// order returns the indices of the libraries in the order in which they are loaded.
func (a *assembly) order() ([]int, api.Errno) {
	if !a.complete() {
		return nil, api.ErrMissing
	}
	var order []int
	there := map[string]bool{}
	next := func(p part) bool { return !p.Patch && !there[p.Name] && p.needsOnly(there) }
	for len(order) < len(a.libs) {
		i := slices.IndexFunc(a.parts, next)
		if i < 0 {
			return nil, api.ErrLoop
		}
		order = append(order, i)
		there[a.parts[i].Name] = true
	}
	return order, api.OK
}

// stale returns the indices of the units that are stale.
func (a *assembly) stale() []int {
	var l []int
	for i, p := range a.parts {
		if !a.isFresh(p) {
			l = append(l, i)
		}
	}
	return l
}

// isFresh tells whether a unit was compiled against the interfaces that the libraries have which it needs.
func (a *assembly) isFresh(p part) bool {
	against := map[string]bool{}
	for _, i := range p.Against {
		k, ok := a.libs[libOf(i)]
		if !ok || !equal(i, a.parts[k].Interface) {
			return false
		}
		against[libOf(i)] = true
	}
	return p.needsOnly(against)
}

// program returns the program of the libraries in an order, and of the patches.
func (a *assembly) program(order []int) (api.Program, api.Errno) {
	var main []api.Expr
	var patches []api.Library
	for _, p := range a.parts {
		main = append(main, p.Main...)
		if p.Patch {
			patches = append(patches, copies.Library(p.Library))
		}
	}
	if len(main) != 1 {
		return api.Program{}, api.ErrMain
	}
	lib := func(i int) api.Library { return copies.Library(a.parts[i].Library) }
	return api.Program{Libs: lists.Each(order, lib), Patches: patches, Main: copies.Expr(main[0])}, api.OK
}

// dependencies returns the names of all libraries that one uses, directly or not.
func (a *assembly) dependencies(name string) []string {
	found := map[string]bool{}
	for work := []string{name}; len(work) > 0; work = work[1:] {
		p := a.parts[a.libs[work[0]]]
		for lib := range p.needs {
			if !found[lib] {
				found[lib] = true
				work = append(work, lib)
			}
		}
	}
	return slices.Sorted(maps.Keys(found))
}
