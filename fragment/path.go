package fragment

import (
	"slices"

	"skerry/api"
)

// At returns the fragment to which a path leads.
func At(l []api.Frag, path []int) (api.Frag, api.Errno) {
	lists, e := along(l, path)
	if e != api.OK {
		return api.Frag{}, e
	}
	last := len(path) - 1
	f := lists[last][path[last]]
	f.Kids = copied(f.Kids)
	return f, api.OK
}

// Put returns the list in which other fragments stand in the place of the one to which a path leads.
func Put(l []api.Frag, path []int, by []api.Frag) ([]api.Frag, api.Errno) {
	lists, e := along(l, path)
	if e != api.OK {
		return nil, e
	}
	put := by
	for k := len(path) - 1; k >= 0; k-- {
		put = replaced(lists[k], path[k], put)
		if k > 0 {
			f := lists[k-1][path[k-1]]
			f.Kids = put
			put = []api.Frag{f}
		}
	}
	if Depth(put) > api.MaxDeep || Size(put) > api.MaxTokens {
		return nil, api.ErrLarge
	}
	return copied(put), api.OK
}

// along returns the lists of which the numbers of a path are indices.
func along(l []api.Frag, path []int) ([][]api.Frag, api.Errno) {
	if len(path) == 0 {
		return nil, api.ErrNone
	}
	next := follow(l)
	var lists [][]api.Frag
	for _, i := range path {
		list, ok := next(i)
		if !ok {
			return nil, api.ErrNone
		}
		lists = append(lists, list)
	}
	return lists, api.OK
}

// follow returns a function that goes from l to its fragment with an index, then to one of the kids of this, and so on. It returns the list of which the number was an index.
func follow(l []api.Frag) func(i int) ([]api.Frag, bool) {
	return func(i int) ([]api.Frag, bool) {
		if i < 0 || i >= len(l) {
			return nil, false
		}
		list := l
		l = l[i].Kids
		return list, true
	}
}

// replaced is a list with other fragments in the place of the one with an index.
func replaced(l []api.Frag, i int, by []api.Frag) []api.Frag {
	return slices.Concat(l[:i], by, l[i+1:])
}
