package macro

import (
	"iter"
	"slices"

	"skerry/api"
)

// call is a call of a macro in a list.
type call struct {
	macro api.Macro
	given []api.Frag // the fragments that have to match
	at    int        // the index of its first token
	path  []int      // the indices that lead to its first fragment
	width int        // the number of its fragments: a group, or a name and a group
}

// calls yields the calls in a list, in the order of their first tokens.
func calls(macros map[string]api.Macro, l []api.Frag) iter.Seq[call] {
	return func(yield func(call) bool) {
		w := walker{macros: macros, yield: yield}
		w.walk(l)
	}
}

// walker goes through the fragments of a list, and counts their tokens.
type walker struct {
	macros map[string]api.Macro
	yield  func(call) bool
	at     int   // the index of the next token
	path   []int // the indices of the groups around it
}

// walk goes through a list. It tells whether it may go on.
func (w *walker) walk(l []api.Frag) bool {
	for i, f := range l {
		if c, ok := w.call(l[i:]); ok {
			c.at, c.path = w.at, append(slices.Clone(w.path), i)
			if !w.yield(c) {
				return false
			}
		}
		w.at++
		if f.Open == "" {
			continue
		}
		w.path = append(w.path, i)
		if !w.walk(f.Kids) {
			return false
		}
		w.path = w.path[:len(w.path)-1]
		w.at++ // the closing token
	}
	return true
}

// call returns the call with which a list begins.
func (w *walker) call(l []api.Frag) (call, bool) {
	f := l[0]
	if f.Open != "" {
		m, ok := w.macros[f.Open]
		return call{macro: m, given: f.Kids, width: 1}, ok && m.Statement
	}
	if f.Tok.Kind != api.TkName || len(l) == 1 || l[1].Open != "(" {
		return call{}, false
	}
	m, ok := w.macros[f.Tok.Text]
	return call{macro: m, given: l[1].Kids, width: 2}, ok && !m.Statement
}

func byName(macros []api.Macro) map[string]api.Macro {
	named := map[string]api.Macro{}
	for _, m := range macros {
		named[m.Name] = m
	}
	return named
}
