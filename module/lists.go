package module

import "slices"

// all tells whether each element of a list is right.
func all[T any](l []T, right func(T) bool) bool {
	return !slices.ContainsFunc(l, func(x T) bool { return !right(x) })
}

// each returns what becomes of each element of a list, in new memory.
func each[T, U any](l []T, become func(T) U) []U {
	var m []U
	for _, x := range l {
		m = append(m, become(x))
	}
	return m
}

// distinct tells whether all elements of a list have different texts.
func distinct[T any](l []T, text func(T) string) bool {
	seen := map[string]bool{}
	for _, x := range l {
		seen[text(x)] = true
	}
	return len(seen) == len(l)
}
