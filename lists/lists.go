// Package lists has functions on lists that several layers need.
package lists

import "slices"

// All tells whether each element of a list is right. It goes no further than to the first one that is not.
func All[T any](l []T, right func(T) bool) bool {
	return !slices.ContainsFunc(l, func(x T) bool { return !right(x) })
}

// Each returns what becomes of each element of a list, in new memory.
func Each[T, U any](l []T, become func(T) U) []U {
	var m []U
	for _, x := range l {
		m = append(m, become(x))
	}
	return m
}

// Firsts returns the elements of a list in new memory, but of several with the same name only the first one.
func Firsts[T any](l []T, name func(T) string) []T {
	var m []T
	there := map[string]bool{}
	for _, x := range l {
		if s := name(x); !there[s] {
			there[s] = true
			m = append(m, x)
		}
	}
	return m
}

// Distinct tells whether all elements of a list have different names.
func Distinct[T any](l []T, name func(T) string) bool {
	return len(Firsts(l, name)) == len(l)
}

// Itself is the name of a string in a list of names.
func Itself(name string) string {
	return name
}
