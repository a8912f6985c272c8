package macro

import "skerry/api"

// begins tells whether a list begins with what would be a definition.
func begins(l []api.Frag) bool {
	return len(l) > 1 && isToken(l[0], api.TkName, "define") && l[1].Open == "macro"
}

// isToken tells whether a fragment is a token with a kind and a text.
func isToken(f api.Frag, kind int, text string) bool {
	return f.Open == "" && f.Tok.Kind == kind && f.Tok.Text == text
}

// definition returns the macro with whose definition a list begins, if it is a right one.
func definition(l []api.Frag) (api.Macro, bool) {
	kids := l[1].Kids
	if len(l) < 3 || !isToken(l[2], api.TkSign, ";") || len(kids) == 0 || kids[0].Open != "" {
		return api.Macro{}, false
	}
	m := api.Macro{Name: kids[0].Tok.Text}
	for rest := kids[1:]; len(rest) > 0; {
		statement, rule, ok := ruleOf(m.Name, rest)
		if !ok || len(m.Rules) > 0 && statement != m.Statement {
			return api.Macro{}, false
		}
		m.Statement = statement
		m.Rules = append(m.Rules, rule)
		rest = rest[3:]
		if len(rest) > 0 && isToken(rest[0], api.TkSign, ";") {
			rest = rest[1:]
		}
	}
	return m, Check(m) == api.OK
}

// ruleOf returns the rule with which a list begins, and whether it is one of a statement macro.
func ruleOf(name string, l []api.Frag) (statement bool, r api.MacroRule, ok bool) {
	if len(l) < 3 || l[0].Open != "{" || !isToken(l[1], api.TkSign, "=>") || l[2].Open != "{" {
		return false, api.MacroRule{}, false
	}
	r.Template = copied(l[2].Kids)
	kids := l[0].Kids
	switch {
	case len(kids) == 1 && kids[0].Open == name:
		r.Pattern = copied(kids[0].Kids)
		return true, r, true
	case len(kids) == 2 && isToken(kids[0], api.TkName, name) && kids[1].Open == "(":
		r.Pattern = copied(kids[1].Kids)
		return false, r, true
	}
	return false, api.MacroRule{}, false
}
