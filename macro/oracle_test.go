package macro

import (
	"fmt"
	"math/rand"
	"reflect"
	"slices"
	"strings"
	"testing"

	"skerry/api"
	"skerry/fragment"
	"skerry/lex"
)

// tok is a valid token with a text.
func tok(text string) api.Token {
	t := api.Token{Kind: lex.Kind(text), Text: text}
	t.Num, _ = lex.Number(text)
	return t
}

// toks are the tokens of a text.
func toks(t testing.TB, text string) []api.Token {
	t.Helper()
	l, at, e := lex.Scan(text)
	if e != api.OK {
		t.Fatalf("Scan(%s) = %d, %d", text, at, e)
	}
	return l
}

// frags are the fragments of a text, with the words of its macros and further ones.
func frags(t testing.TB, text string, words ...string) []api.Frag {
	t.Helper()
	l := toks(t, text)
	f, at, e := fragment.Read(l, append(Words(l), words...))
	if e != api.OK {
		t.Fatalf("Read(%s) = %d, %d", text, at, e)
	}
	return f
}

// macros are those that a text defines.
func macros(t testing.TB, text string) []api.Macro {
	t.Helper()
	m, _, at, e := Define(frags(t, text))
	if e != api.OK {
		t.Fatalf("Define(%s) = %d, %d", text, at, e)
	}
	return m
}

// show writes a list: marks behind a ^, groups of words in < and >.
func show(l []api.Frag) string {
	var parts []string
	for _, f := range l {
		s := f.Tok.Text
		if f.Tok.Mark != 0 {
			s += fmt.Sprintf("^%d", f.Tok.Mark)
		}
		switch f.Open {
		case "":
		case "(", "[", "{":
			s += show(f.Kids) + map[string]string{"(": ")", "[": "]", "{": "}"}[f.Open]
		default:
			s = "<" + s + ": " + show(f.Kids) + ">"
		}
		parts = append(parts, s)
	}
	return strings.Join(parts, " ")
}

func showBinds(binds []api.MacroBind) string {
	var parts []string
	for _, b := range binds {
		parts = append(parts, b.Name+": "+show(b.Frags))
	}
	return strings.Join(parts, " | ")
}

func showExpansions(l []api.Expansion) string {
	var parts []string
	for _, x := range l {
		parts = append(parts, fmt.Sprintf("%s %d %d %d [%s]", x.Macro, x.Rule, x.Mark, x.At, showBinds(x.Binds)))
	}
	return strings.Join(parts, " ")
}

func showMacro(m api.Macro) string {
	s := m.Name
	if m.Statement {
		s = "statement " + s
	}
	for _, r := range m.Rules {
		s += " {" + show(r.Pattern) + "} {" + show(r.Template) + "}"
	}
	return s
}

// tidy is a list of fragments with nil for empty lists.
func tidy(l []api.Frag) []api.Frag {
	var m []api.Frag
	for _, f := range l {
		f.Kids = tidy(f.Kids)
		m = append(m, f)
	}
	return m
}

func tidyBinds(l []api.MacroBind) []api.MacroBind {
	var m []api.MacroBind
	for _, b := range l {
		m = append(m, api.MacroBind{Name: b.Name, Frags: tidy(b.Frags)})
	}
	return m
}

func tidyExpansions(l []api.Expansion) []api.Expansion {
	var m []api.Expansion
	for _, x := range l {
		x.Binds = tidyBinds(x.Binds)
		m = append(m, x)
	}
	return m
}

func same(a, b []api.Frag) bool {
	return reflect.DeepEqual(tidy(a), tidy(b))
}

func sameExpansions(a, b []api.Expansion) bool {
	return reflect.DeepEqual(tidyExpansions(a), tidyExpansions(b))
}

// The chapter's rules once more, without looking for speed, to hold the package against.

// oracleTakes returns how many fragments of l the first one of a pattern takes, or -1, and what it binds.
func oracleTakes(pattern, l []api.Frag) (int, []api.MacroBind) {
	p := pattern[0]
	isTok := func(i int, kind int, text string) bool {
		return l[i].Open == "" && l[i].Tok.Kind == kind && l[i].Tok.Text == text
	}
	if p.Tok.Kind != api.TkPat {
		switch {
		case len(l) == 0 || l[0].Open != p.Open:
			return -1, nil
		case p.Open != "":
			if binds, ok := oracleMatch(p.Kids, l[0].Kids); ok {
				return 1, binds
			}
			return -1, nil
		case isTok(0, p.Tok.Kind, p.Tok.Text):
			return 1, nil
		}
		return -1, nil
	}
	name, kind, _ := strings.Cut(strings.TrimPrefix(p.Tok.Text, "?"), ":")
	n := 1
	switch kind {
	case "name", "token":
		if len(l) == 0 || l[0].Open != "" || kind == "name" && l[0].Tok.Kind != api.TkName {
			return -1, nil
		}
	default:
		for n = 0; n < len(l); n++ {
			if kind == "expression" && (isTok(n, api.TkSign, ",") || isTok(n, api.TkSign, ";") || isTok(n, api.TkSign, "=>")) {
				break
			}
			if len(pattern) > 1 && isTok(n, pattern[1].Tok.Kind, pattern[1].Tok.Text) {
				break
			}
		}
		if kind == "expression" && n == 0 {
			return -1, nil
		}
	}
	return n, []api.MacroBind{{Name: name, Frags: l[:n]}}
}

func oracleMatch(pattern, l []api.Frag) ([]api.MacroBind, bool) {
	if len(pattern) == 0 {
		return nil, len(l) == 0
	}
	n, binds := oracleTakes(pattern, l)
	if n < 0 {
		return nil, false
	}
	others, ok := oracleMatch(pattern[1:], l[n:])
	if !ok {
		return nil, false
	}
	return slices.Concat(binds, others), true
}

func oracleFill(template []api.Frag, binds []api.MacroBind, mark int) []api.Frag {
	var l []api.Frag
	for _, f := range template {
		i := slices.IndexFunc(binds, func(b api.MacroBind) bool { return f.Tok.Text == "?"+b.Name })
		if f.Tok.Kind == api.TkPat {
			l = append(l, binds[i].Frags...)
			continue
		}
		f.Tok.Mark = mark
		f.Kids = oracleFill(f.Kids, binds, mark)
		l = append(l, f)
	}
	return l
}

// oracleOnce replaces the first call of a list, which has as many tokens ahead of it as at. It returns an error if there is a call that no rule matches.
func oracleOnce(macros []api.Macro, l []api.Frag, mark, at int) ([]api.Frag, api.Expansion, bool, api.Errno) {
	for i, f := range l {
		for _, m := range macros {
			given, width := f.Kids, 1
			if m.Statement && f.Open != m.Name {
				continue
			}
			if !m.Statement {
				if f.Open != "" || f.Tok.Kind != api.TkName || f.Tok.Text != m.Name || i+1 == len(l) || l[i+1].Open != "(" {
					continue
				}
				given, width = l[i+1].Kids, 2
			}
			x := api.Expansion{Macro: m.Name, Mark: mark, At: at}
			for k, r := range m.Rules {
				if binds, ok := oracleMatch(r.Pattern, given); ok {
					x.Rule, x.Binds = k, binds
					return slices.Concat(l[:i], oracleFill(r.Template, binds, mark), l[i+width:]), x, true, api.OK
				}
			}
			return nil, x, true, api.ErrMatch
		}
		if kids, x, found, e := oracleOnce(macros, f.Kids, mark, at+1); found {
			c := slices.Clone(l)
			c[i].Kids = kids
			return c, x, true, e
		}
		at += fragment.Size([]api.Frag{f})
	}
	return l, api.Expansion{}, false, api.OK
}

func oracleWith(macros []api.Macro, l []api.Frag) ([]api.Frag, []api.Expansion, int, api.Errno) {
	var all []api.Expansion
	for mark := 1; ; mark++ {
		next, x, found, e := oracleOnce(macros, l, mark, 0)
		switch {
		case !found:
			return l, all, 0, api.OK
		case mark > api.MaxMarks:
			return nil, nil, 0, api.ErrMarks
		case e != api.OK:
			return nil, nil, x.At, e
		case fragment.Depth(next) > api.MaxDeep || fragment.Size(next) > api.MaxTokens:
			return nil, nil, x.At, api.ErrLarge
		}
		l, all = next, append(all, x)
	}
}

func oracleCalls(macros []api.Macro, l []api.Frag) int {
	n := 0
	for i, f := range l {
		for _, m := range macros {
			isFunction := f.Open == "" && f.Tok.Kind == api.TkName && f.Tok.Text == m.Name && i+1 < len(l) && l[i+1].Open == "("
			if m.Statement && f.Open == m.Name || !m.Statement && isFunction {
				n++
			}
		}
		n += oracleCalls(macros, f.Kids)
	}
	return n
}

// Fragments, patterns, templates and macros by chance.

// maker makes macros and lists by chance. Macros are called in what it makes.
type maker struct {
	*rand.Rand
	macros []api.Macro
	names  []string // of the variables of a pattern
}

var plainTexts = []string{"a", "b", "x", "y", "f", "7", "#t", "k:", ",", ";", "=>", "+", "=", "begin", "t"}

// token is a token by chance.
func (r *maker) token() api.Frag {
	return api.Frag{Tok: tok(plainTexts[r.Intn(len(plainTexts))])}
}

func (r *maker) group(kids []api.Frag) api.Frag {
	open := []string{"(", "(", "(", "[", "{", "begin", "if"}[r.Intn(7)]
	return api.Frag{Tok: tok(open), Open: open, Kids: kids}
}

// list is a list by chance, with calls of the macros.
func (r *maker) list(most, depth int) []api.Frag {
	var l []api.Frag
	for range r.Intn(most + 1) {
		switch k := r.Intn(10); {
		case k < 2 && len(r.macros) > 0:
			l = append(l, r.call(depth)...)
		case k < 4 && depth > 0:
			l = append(l, r.group(r.list(most-1, depth-1)))
		default:
			l = append(l, r.token())
		}
	}
	return l
}

// call is a call that some rule of a macro often matches.
func (r *maker) call(depth int) []api.Frag {
	m := r.macros[r.Intn(len(r.macros))]
	given := r.fitting(m.Rules[r.Intn(len(m.Rules))].Pattern, depth)
	if m.Statement {
		return []api.Frag{{Tok: tok(m.Name), Open: m.Name, Kids: given}}
	}
	return []api.Frag{{Tok: tok(m.Name)}, {Tok: tok("("), Open: "(", Kids: given}}
}

// fitting is a list that often matches a pattern.
func (r *maker) fitting(pattern []api.Frag, depth int) []api.Frag {
	var l []api.Frag
	for _, p := range pattern {
		_, kind := lex.Pattern(p.Tok)
		switch {
		case r.Intn(40) == 0: // it is left out
		case p.Open != "":
			p.Kids = r.fitting(p.Kids, depth-1)
			l = append(l, p)
		case kind == "":
			l = append(l, p)
		case kind == "name":
			l = append(l, api.Frag{Tok: tok([]string{"a", "b", "x", "y", "f"}[r.Intn(5)])})
		case kind == "token":
			l = append(l, r.token())
		case depth <= 0:
			l = append(l, api.Frag{Tok: tok("x")})
		default:
			l = append(l, r.list(2, depth-1)...)
			if kind == "expression" {
				l = append(l, api.Frag{Tok: tok("y")})
			}
		}
	}
	return l
}

// pattern is a pattern by chance. It adds the names of its variables to those of the maker.
func (r *maker) pattern(most, depth int) []api.Frag {
	var l []api.Frag
	n := r.Intn(most + 1)
	for i := 0; i < n; i++ {
		switch k := r.Intn(10); {
		case k < 5 && len(r.names) < 8:
			kind := []string{"name", "token", "expression", "body"}[r.Intn(4)]
			name := fmt.Sprintf("v%d", len(r.names))
			r.names = append(r.names, name)
			l = append(l, api.Frag{Tok: tok("?" + name + ":" + kind)})
			if kind == "expression" || kind == "body" {
				if r.Intn(2) == 0 {
					return l
				}
				l = append(l, r.token())
			}
		case k < 7 && depth > 0:
			l = append(l, r.group(r.pattern(most, depth-1)))
		default:
			l = append(l, r.token())
		}
	}
	return l
}

// template is a template by chance for the variables with the names.
func (r *maker) template(most, depth int) []api.Frag {
	var l []api.Frag
	for range r.Intn(most + 1) {
		switch k := r.Intn(20); {
		case k < 7 && len(r.names) > 0:
			l = append(l, api.Frag{Tok: tok("?" + r.names[r.Intn(len(r.names))])})
		case k < 10 && depth > 0:
			l = append(l, r.group(r.template(most-1, depth-1)))
		case k < 11 && len(r.macros) > 0:
			l = append(l, r.call(1)...)
		default:
			f := r.token()
			f.Tok.Mark = r.Intn(3)
			l = append(l, f)
		}
	}
	return l
}

// define makes so many macros. Their templates call only those that were made earlier, but for a few.
func (r *maker) define(n int) {
	for i := range n {
		m := api.Macro{Name: fmt.Sprintf("m%d", i), Statement: r.Intn(3) == 0}
		for range 1 + r.Intn(3) {
			r.names = nil
			pattern := r.pattern(4, 2)
			m.Rules = append(m.Rules, api.MacroRule{Pattern: pattern, Template: r.template(4, 2)})
		}
		r.macros = append(r.macros, m)
	}
	if r.Intn(20) == 0 { // one that may never end
		m := &r.macros[r.Intn(n)]
		last := &m.Rules[len(m.Rules)-1]
		last.Template = append(last.Template, r.call(1)...)
	}
}
