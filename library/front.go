package library

import (
	"iter"
	"slices"

	"skerry/api"
	"skerry/fragment"
	"skerry/lex"
	"skerry/lists"
	"skerry/macro"
	"skerry/syntax"
)

// The layers that may refuse a text.
const (
	layerLex = 1 + iota
	layerFragment
	layerMacro
	layerSyntax
	layerModule
)

// refusal is what the front end panics with when a step refuses a text.
type refusal struct {
	api.Trouble
	e api.Errno
}

// front is a text on its way through the front end.
type front struct {
	text   string
	used   []api.Interface
	tokens []api.Token
	tree   []api.Frag
	own    []api.Macro // the macros that the text defines
	others []api.Macro // those that it uses
	source api.Source
}

// step is a step of the front end: its layer, and what makes it and returns an error and where it is.
type step struct {
	layer int
	do    func() (int, api.Errno)
}

// pass makes the steps of the front end up to a layer. One that refuses the text leaves it.
func (f *front) pass(last int) {
steps:
	for _, s := range []step{
		{layerLex, f.scan},
		{layerFragment, f.read},
		{layerMacro, f.define},
		{layerMacro, f.expand},
		{layerSyntax, f.parse},
	} {
		if s.layer > last {
			break steps
		}
		at, e := s.do()
		if e != api.OK {
			panic(refusal{api.Trouble{Layer: s.layer, At: at}, e})
		}
	}
}

func (f *front) scan() (int, api.Errno) {
	l, at, e := lex.Scan(f.text)
	f.tokens, f.others = l, borrowed(l, f.used)
	return at, e
}

func (f *front) read() (int, api.Errno) {
	words := macro.Words(f.tokens)
	for _, m := range f.others {
		if m.Statement {
			words = append(words, m.Name)
		}
	}
	l, at, e := fragment.Read(f.tokens, lists.Firsts(words, lists.Itself))
	f.tree = l
	return at, e
}

func (f *front) define() (int, api.Errno) {
	own, rest, at, e := macro.Define(f.tree)
	f.own, f.tree = own, rest
	return at, e
}

// expand lets the macros that the text defines hide others.
func (f *front) expand() (int, api.Errno) {
	macros := lists.Firsts(slices.Concat(f.own, f.others), macroName)
	l, _, at, e := macro.With(macros, f.tree)
	f.tree = l
	return at, e
}

func (f *front) parse() (int, api.Errno) {
	s, at, e := syntax.Parse(f.tree)
	f.source = s
	return at, e
}

// borrowed is the macros that tokens use.
func borrowed(l []api.Token, used []api.Interface) []api.Macro {
	named := map[string]bool{}
	for lib := range clauses(l) {
		named[lib] = true
	}
	var macros []api.Macro
	for _, i := range used {
		if named[libOf(i)] {
			macros = append(macros, i.Macros...)
		}
	}
	return lists.Firsts(macros, macroName)
}

// clauses yields the libraries that use clauses without a prefix or an import name.
func clauses(l []api.Token) iter.Seq[string] {
	return func(yield func(string) bool) {
		for i := 2; i < len(l); i++ {
			use, lib, end := l[i-2], l[i-1], l[i]
			if is(use, api.TkName, "use") && lex.IsPlain(lib.Text) && is(end, api.TkSign, ";") && !yield(lib.Text) {
				return
			}
		}
	}
}

// is tells whether a token has a kind and a text.
func is(t api.Token, kind int, text string) bool {
	return t.Kind == kind && t.Text == text
}
