package syntax

import (
	"strings"

	"skerry/api"
	"skerry/lex"
)

// IsReserved reports whether a string is a reserved word.
func IsReserved(name string) bool {
	switch name {
	case "abstract", "begin", "block", "class", "cleanup", "constant", "define", "domain", "each-subclass", "else", "elseif",
		"end", "export", "generic", "handler", "if", "import", "instance?", "let", "library", "limited", "load-patch", "local",
		"macro", "make", "method", "next-method", "object-class", "patch", "prefix", "print", "quotient", "sealed", "signal",
		"singleton", "slot", "subclass", "type-union", "use", "virtual":
		return true
	}
	return false
}

// isName tells whether a string is a name that is no reserved word.
func isName(s string) bool {
	return lex.IsName(s) && !IsReserved(s)
}

// isPlain tells whether a string is a plain name that is no reserved word.
func isPlain(s string) bool {
	return lex.IsPlain(s) && !IsReserved(s)
}

// isLibrary tells whether a string is the name of a library.
func isLibrary(s string) bool {
	other := func(r rune) bool { return !isLetter(r) && !('0' <= r && r <= '9') && r != '-' }
	return isPlain(s) && isLetter(rune(s[0])) && !strings.ContainsFunc(s, other)
}

func isLetter(r rune) bool {
	return 'a' <= r && r <= 'z'
}

// isKey tells whether a string is a keyword without its colon.
func isKey(s string) bool {
	return lex.Kind(s+":") == api.TkKey
}

// Setter returns the name of the setter of what a name denotes; an empty string if there is none.
func Setter(name string) string {
	own, library := lex.Split(name)
	setter := own + "-setter"
	if library != "" {
		setter += "@" + library
	}
	if !lex.IsName(name) || !lex.IsName(setter) {
		return ""
	}
	return setter
}
