package lex

import "strings"

// The classes of bytes, with the letter that each one has in the chapter.
const (
	letter     = iota // L
	digit             // D
	inName            // W
	endsName          // F
	beginsName        // B
	inLibrary         // Q
	classCount
)

// classes tells for each class whether a byte is in it.
type classes [classCount]bool

func classesOf(b byte) classes {
	var in classes
	in[letter] = 'a' <= b && b <= 'z'
	in[digit] = '0' <= b && b <= '9'
	in[endsName] = in[letter] || in[digit] || strings.IndexByte("!$&*<>|^%_~?", b) >= 0
	in[inName] = in[endsName] || strings.IndexByte("+-/=", b) >= 0
	in[beginsName] = strings.IndexByte("<$%*_", b) >= 0
	in[inLibrary] = in[letter] || in[digit] || b == '-'
	return in
}

func isBlank(b byte) bool {
	return strings.IndexByte(" \t\n\r", b) >= 0
}

// run is the number of bytes at the beginning of s that are in a class.
func run(s string, class int) int {
	n := 0
	for n < len(s) && classesOf(s[n])[class] {
		n++
	}
	return n
}
