package macro

import (
	"skerry/api"
	"skerry/fragment"
)

// refusal is what an expansion panics with: its call and its mark, and the error.
type refusal struct {
	api.Expansion
	e api.Errno
}

// table is what the variables of a rule are bound to.
type table struct {
	binds []api.MacroBind
	bound map[string]bound // by name
}

// bound is what a variable is replaced by, and how many tokens this has.
type bound struct {
	list []api.Frag
	size int
}

func newTable(binds []api.MacroBind) table {
	t := table{binds: binds, bound: map[string]bound{}}
	for _, b := range binds {
		t.bound[b.Name] = bound{b.Frags, fragment.Size(b.Frags)}
	}
	return t
}

// expansion is the expansion of a call by a rule.
type expansion struct {
	call
	table
	rule     int
	mark     int
	inserted int // the number of tokens of bindings so far
}

// choose finds the first rule that the call matches.
func (x *expansion) choose(m *matcher) {
	for i, r := range x.macro.Rules {
		if binds, ok := m.bindings(r.Pattern, x.given); ok {
			x.rule, x.table = i, newTable(binds)
			return
		}
	}
	x.refuse(api.ErrMatch)
}

// fill returns a template with what its variables are bound to, in the memory of this, and with the mark.
func (x *expansion) fill(template []api.Frag) []api.Frag {
	var filled []api.Frag
	for _, f := range template {
		if f.Tok.Kind == api.TkPat {
			b := x.bound[f.Tok.Text[1:]]
			x.insert(b.size)
			filled = append(filled, b.list...)
			continue
		}
		f.Tok.Mark = x.mark
		if f.Open != "" {
			f.Kids = x.fill(f.Kids)
		}
		filled = append(filled, f)
	}
	return filled
}

// insert counts tokens of bindings, and refuses as soon as there are too many: a template can ask for more than there is memory for.
func (x *expansion) insert(n int) {
	x.inserted += n
	if x.inserted > api.MaxTokens {
		x.refuse(api.ErrLarge)
	}
}

// limit refuses a list that is too deep or too long.
func (x *expansion) limit(l []api.Frag) {
	if measure(l) != api.OK {
		x.refuse(api.ErrLarge)
	}
}

func (x *expansion) refuse(e api.Errno) {
	panic(refusal{api.Expansion{Macro: x.macro.Name, Mark: x.mark, At: x.at}, e})
}

// shown is the expansion as others see it.
func (x *expansion) shown() api.Expansion {
	return api.Expansion{Macro: x.macro.Name, Rule: x.rule, Mark: x.mark, At: x.at, Binds: x.binds}
}
