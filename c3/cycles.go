package c3

import (
	"slices"

	"skerry/lists"
)

// isAhead tells whether a stands ahead of b in a list.
func isAhead(l []string, a, b string) bool {
	i := slices.Index(l, a)
	return i >= 0 && slices.Contains(l[i+1:], b)
}

// isCycle tells whether a list is a cycle of the precedences that some lists have.
func isCycle(all [][]string, l []string) bool {
	if len(l) < 2 || !lists.Distinct(l, lists.Itself) {
		return false
	}
	for i, a := range l {
		b := l[(i+1)%len(l)]
		if !slices.ContainsFunc(all, func(names []string) bool { return isAhead(names, a, b) }) {
			return false
		}
	}
	return true
}

// cycle returns a cycle of precedences, if merging is stuck: then each first element stands behind that of another list.
func (m *merger) cycle() []string {
	name := m.lists[0][0]
	var trail []string
	for !slices.Contains(trail, name) {
		trail = append(trail, name)
		name = m.ahead(name)
	}
	l := trail[slices.Index(trail, name):]
	slices.Reverse(l[1:]) // in the trail each name stands behind the next one
	return l
}

// ahead returns the first element of a list in which a name stands behind it.
func (m *merger) ahead(name string) string {
	i := slices.IndexFunc(m.lists, func(l []string) bool { return slices.Contains(l[1:], name) })
	return m.lists[i][0]
}
