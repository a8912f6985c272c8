package syntax

import "slices"

// all tells whether each element of a list is right. It goes no further than to the first one that is not.
func all[T any](l []T, right func(T) bool) bool {
	return !slices.ContainsFunc(l, func(x T) bool { return !right(x) })
}

// texts returns a string for each element of a list.
func texts[T any](l []T, text func(T) string) []string {
	var m []string
	for _, x := range l {
		m = append(m, text(x))
	}
	return m
}

// distinct tells whether all strings are different, and are as they have to be.
func distinct(l []string, right func(string) bool) bool {
	seen := map[string]bool{}
	for _, s := range l {
		if seen[s] || !right(s) {
			return false
		}
		seen[s] = true
	}
	return true
}
