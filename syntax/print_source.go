package syntax

import (
	"strings"

	"skerry/api"
	"skerry/lists"
)

func sourceText(s api.Source) string {
	word, exports := "library", ""
	if s.Patch {
		word = "patch"
	}
	if len(s.Exports) > 0 {
		exports = line("export", commas(s.Exports), ";")
	}
	uses, defs, main := lists.Each(s.Uses, useText), lists.Each(s.Defs, definitionText), lists.Each(s.Main, exprText)
	return line(word, s.Name, ";", line(uses...), exports, line(defs...), line(main...))
}

func useText(u api.Use) string {
	switch {
	case !u.All:
		return line("use", u.Lib, ", import: {", commas(lists.Each(u.Names, itemText)), "} ;")
	case u.Prefix != "":
		return line("use", u.Lib, ", prefix:", u.Prefix, ";")
	}
	return line("use", u.Lib, ";")
}

func itemText(r api.Rename) string {
	if r.From == r.To {
		return r.From
	}
	return line(r.From, "=>", r.To)
}

func definitionText(d api.Def) string {
	switch d.Kind {
	case api.DfClass:
		return line("define", classText(d.Class), ";")
	case api.DfGeneric:
		params := strings.Fields(strings.Repeat("x ", d.Generic.Arity))
		return line("define", word("sealed", d.Generic.Sealed), "generic", d.Generic.Name, inParentheses(params), ";")
	case api.DfMethod:
		m := d.Method
		return line("define method", m.Generic, paramsText(m.Params), "=>", typeText(m.Result), bodyText(m.Body), "end ;")
	case api.DfDomain:
		return line("define sealed domain", d.Domain.Generic, inParentheses(lists.Each(d.Domain.Types, typeText)), ";")
	}
	return line("define constant", d.Name, "=", exprText(d.Body), ";")
}

// word is a word that may be left out.
func word(s string, there bool) string {
	if there {
		return s
	}
	return ""
}

func classText(c api.ClassDef) string {
	slots := line(lists.Each(c.Slots, slotText)...)
	return line(word("abstract", c.Abstract), word("sealed", c.Sealed), "class", c.Name, inParentheses(c.Supers), slots, "end")
}

func slotText(s api.Slot) string {
	key, init := "", ""
	if s.Key != "" {
		key = line(", init-keyword:", s.Key+":")
	}
	for _, e := range s.Init {
		init = line(", init-value:", exprText(e))
	}
	return line(allocationText(s.Alloc), "slot", s.Name, "::", typeText(s.Type), key, init, ";")
}

func allocationText(alloc int) string {
	switch alloc {
	case api.SlClass:
		return "class"
	case api.SlEach:
		return "each-subclass"
	case api.SlVirt:
		return "virtual"
	}
	return ""
}
