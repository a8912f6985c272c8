package macro

import (
	"slices"

	"skerry/api"
)

// state is a list in which calls are replaced one after the other. What it shares with its arguments and with itself is copied when it is given out.
type state struct {
	list    []api.Frag
	macros  map[string]api.Macro
	mark    func() int // gives the mark of the next expansion
	matcher *matcher
}

func newState(macros []api.Macro, l []api.Frag, mark func() int) *state {
	return &state{l, byName(macros), mark, newMatcher()}
}

// marks gives the marks from 1 to MaxMarks, one after the other, and then refuses.
func marks() func() int {
	n := 0
	return func() int {
		if n == api.MaxMarks {
			panic(refusal{e: api.ErrMarks})
		}
		n++
		return n
	}
}

// once replaces the first call, and tells whether there was one.
func (s *state) once() (api.Expansion, bool) {
	for c := range calls(s.macros, s.list) {
		return s.replace(c), true
	}
	return api.Expansion{}, false
}

func (s *state) replace(c call) api.Expansion {
	x := &expansion{call: c, mark: s.mark()}
	x.choose(s.matcher)
	filled := x.fill(c.macro.Rules[x.rule].Template)
	list := replaced(s.list, c.path, c.width, filled)
	x.limit(list)
	s.list = list
	return x.shown()
}

// replaced is a list with other fragments in the place of as many as width, to the first of which a path leads.
func replaced(l []api.Frag, path []int, width int, by []api.Frag) []api.Frag {
	i := path[0]
	if len(path) > 1 {
		f := l[i]
		f.Kids = replaced(f.Kids, path[1:], width, by)
		by, width = []api.Frag{f}, 1
	}
	return slices.Concat(l[:i], by, l[i+width:])
}
