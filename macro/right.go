package macro

import (
	"slices"

	"skerry/api"
	"skerry/fragment"
	"skerry/lex"
)

// measure returns OK for lists that are neither too deep nor too long.
func measure(lists ...[]api.Frag) api.Errno {
	for _, l := range lists {
		if fragment.Depth(l) > api.MaxDeep {
			return api.ErrDeep
		}
		if fragment.Size(l) > api.MaxTokens {
			return api.ErrLong
		}
	}
	return api.OK
}

// checkAll returns OK for a list that fits, and right macros.
func checkAll(macros []api.Macro, l []api.Frag) api.Errno {
	if e := measure(l); e != api.OK {
		return e
	}
	if len(macros) > api.MaxMacros {
		return api.ErrMacro
	}
	names := map[string]bool{}
	for _, m := range macros {
		if names[m.Name] || Check(m) != api.OK {
			return api.ErrMacro
		}
		names[m.Name] = true
	}
	return api.OK
}

// mayName tells whether a macro may have a name.
func mayName(name string) bool {
	taken := append(fragment.Words(), "end", "slot")
	return lex.IsPlain(name) && !slices.Contains(taken, name)
}

// isPattern tells whether a list is a pattern whose variables have other names than those that are there already. It adds their names to these.
func isPattern(l []api.Frag, names map[string]bool) bool {
	for i, f := range l {
		switch {
		case f.Tok.Kind == api.TkPat:
			if f.Open != "" || !isVariable(l[i:], names) {
				return false
			}
		case lex.Check(f.Tok) != api.OK:
			return false
		case f.Open != "" && !isPattern(f.Kids, names):
			return false
		}
	}
	return true
}

// isVariable tells whether a list begins with a variable of a pattern with a new name, and adds this to the names.
func isVariable(l []api.Frag, names map[string]bool) bool {
	name, kind := lex.Pattern(l[0].Tok)
	if names[name] || len(names) == api.MaxArgs {
		return false
	}
	names[name] = true
	switch kind {
	case "name", "token":
		return true
	case "expression", "body":
		return len(l) == 1 || l[1].Open == "" && l[1].Tok.Kind != api.TkPat
	}
	return false
}

// isTemplate tells whether a list is a template for a pattern whose variables have these names.
func isTemplate(l []api.Frag, names map[string]bool) bool {
	for _, f := range l {
		if f.Tok.Kind == api.TkPat {
			name, kind := lex.Pattern(f.Tok)
			// the name of a token that is not valid is empty, and a binding may have that name
			if f.Open != "" || name == "" || kind != "" || !names[name] {
				return false
			}
			continue
		}
		if lex.Check(f.Tok) != api.OK || f.Open != "" && !isTemplate(f.Kids, names) {
			return false
		}
	}
	return true
}
