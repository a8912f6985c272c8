package macro

import (
	"fmt"
	"slices"
	"strings"
	"testing"

	"skerry/api"
	"skerry/fragment"
)

const (
	whileText = "define macro while { while (?c:expression) ?b:body end } => { block (done) local method loop () if (?c) begin ?b end; loop() else done(#f) end end; loop() end } end macro while; "
	twiceText = "define macro twice { twice(?e:expression) } => { begin let x = ?e; x + x end } end; "
	dText     = whileText + twiceText
)

// deep are n groups within each other, with a list in the innermost one.
func deep(n int, l ...api.Frag) []api.Frag {
	for range n {
		l = []api.Frag{{Tok: tok("("), Open: "(", Kids: l}}
	}
	return l
}

// wide is a list of n tokens.
func wide(n int) []api.Frag {
	return slices.Repeat([]api.Frag{{Tok: tok("w")}}, n)
}

// one is a function macro m with one rule.
func one(pattern, template []api.Frag) api.Macro {
	return api.Macro{Name: "m", Rules: []api.MacroRule{{Pattern: pattern, Template: template}}}
}

// bad is a list with a token that is not valid.
func bad() []api.Frag {
	return []api.Frag{{Tok: api.Token{Kind: api.TkName, Text: "7"}}}
}

// patGroup is a list with a group that begins with a pattern variable.
func patGroup(text string) []api.Frag {
	return []api.Frag{{Tok: tok(text), Open: text}}
}

// P3.1: Words, Read

func TestWords(t *testing.T) {
	many, wants := "", []string{}
	for i := range api.MaxWords + 1 {
		many += fmt.Sprintf("define macro w%d { w%d end } => { } end; ", i, i)
		wants = append(wants, fmt.Sprintf("w%d", i))
	}
	for _, x := range []struct{ text, want string }{
		{"", ""},
		{dText, "while"},
		{"define macro m { m x end } => { }", "m"},
		{"define macro m { m(x) } => { end }", ""},
		{"define macro m ; x ( ) { x end }", "m"},
		{"define macro m } { x end }", ""},
		{"define macro m { end", ""},
		{"define macro m { }", ""},
		{"define macro m { end x }", ""},
		{"define macro m { { x } end }", "m"},
		{"define macro m { { x end } }", ""},
		{"define macro m { { end } { } end } }", "m"},
		{"define macro m { x end { }", ""},
		{"} } define macro m { end }", "m"},
		{"( define macro m { end }", "m"},
		{"define macro m { end } define macro m { end }", "m"},
		{"define macro b { end } define macro a { end } define macro b { end }", "b a"},
		{"define macro a define macro b { end }", "a b"},
		{"define macro define macro x { end }", "define x"},
		{"define macro if { end } define macro end { end } define macro slot { end } define macro begin { end }", ""},
		{"define macro block { end } define macro method { end } define macro class { end } define macro macro { end }", ""},
		{"define macro m@l { end } define macro m: { end } define macro 7 { end } define macro ?m { end }", ""},
		{"define: macro m { end } define macro: m { end } define x macro m { end } define macro", ""},
		{"macro m { end } define m { end }", ""},
		{many, strings.Join(wants[:api.MaxWords], " ")},
	} {
		if w := strings.Join(Words(toks(t, x.text)), " "); w != x.want {
			t.Errorf("Words(%s) = %s; expected %s", x.text, w, x.want)
		}
	}
}

// TestWordsOfOthers gives tokens of other kinds than their texts have.
func TestWordsOfOthers(t *testing.T) {
	text := "define macro m { x end }"
	for i := range toks(t, text) {
		l := toks(t, text)
		l[i].Kind = api.TkKey
		want := 0
		if i == 4 { // the x
			want = 1
		}
		if w := Words(l); len(w) != want {
			t.Errorf("Words with another kind of the token %d = %v", i, w)
		}
	}
	l := toks(t, text)
	l[2].Text = "("
	if w := Words(l); len(w) != 0 {
		t.Errorf("Words of a name with the text ( = %v", w)
	}
}

func TestRead(t *testing.T) {
	f, at, e := Read(toks(t, "define macro while { while x end } => { } end; while a end"))
	if e != api.OK || at != 0 || show(f) != "define <macro: while {<while: x>} => {}> ; <while: a>" {
		t.Errorf("Read = %s, %d, %d", show(f), at, e)
	}
	deepest := strings.Repeat("(", api.MaxDeep) + strings.Repeat(")", api.MaxDeep)
	invalid := toks(t, "a b c")
	invalid[2].Num = 1
	long := slices.Repeat(toks(t, "a"), api.MaxTokens)
	for _, x := range []struct {
		l  []api.Token
		at int
		e  api.Errno
	}{
		{nil, 0, api.OK},
		{long, 0, api.OK},
		{append(long, tok("a")), 0, api.ErrLong},
		{invalid, 2, api.ErrToken},
		{toks(t, deepest), 0, api.OK},
		{toks(t, "("+deepest+")"), api.MaxDeep, api.ErrDeep},
		{toks(t, "while a end"), 2, api.ErrStray},
		{toks(t, "define macro while { while end } while a"), 7, api.ErrOpen},
		{toks(t, "( define macro while { while end } end"), 0, api.ErrOpen},
	} {
		if f, at, e := Read(x.l); at != x.at || e != x.e || e != api.OK && f != nil {
			t.Errorf("Read(%d tokens) = %s, %d, %d; expected %d, %d", len(x.l), show(f), at, e, x.at, x.e)
		}
	}
}

// P3.1: Define, Check

func TestDefine(t *testing.T) {
	for _, x := range []struct{ text, macros, rest string }{
		{"", "", ""},
		{"f(x)", "", "f (x)"},
		{"define macro m { m() } => { } end;", "m {} {}", ""},
		{"define macro m { m() } => { } end macro m; x", "m {} {}", "x"},
		{"define macro m { m(?x:name, 1) } => { (?x) 2 } end;", "m {?x:name , 1} {(?x) 2}", ""},
		{"define macro m { m end } => { } end;", "statement m {} {}", ""},
		{"define macro m { m ?x:token (a) end } => { m ?x end } end;", "statement m {?x:token (a)} {<m: ?x>}", ""},
		// with and without a sign behind a rule
		{"define macro m { m(1) } => { 1 } { m(2) } => { 2 } end;", "m {1} {1} {2} {2}", ""},
		{"define macro m { m(1) } => { 1 }; { m(2) } => { 2 } end;", "m {1} {1} {2} {2}", ""},
		{"define macro m { m(1) } => { 1 }; { m(2) } => { 2 }; end;", "m {1} {1} {2} {2}", ""},
		{"define macro m { m 1 end } => { 1 }; { m 2 end } => { 2 } { m 3 end } => { 3 } end;", "statement m {1} {1} {2} {2} {3} {3}", ""},
		// several, with other fragments between them
		{"a define macro m { m() } => { } end; b; define macro n { n() } => { } end; c", "m {} {} | n {} {}", "a b ; c"},
		{"define macro m { m() } => { } end; define macro n { n() } => { } end;", "m {} {} | n {} {}", ""},
		// what is no definition stays
		{"define x macro m end", "", "define x <macro: m>"},
		{"macro m { m() } => { } end;", "", "<macro: m {m ()} => {}> ;"},
		{"define begin end; define", "", "define <begin: > ; define"},
		{"define: macro m end ?define macro m end", "", "define: <macro: m> ?define <macro: m>"},
		{"(define macro m end;) begin define macro end end", "", "(define <macro: m> ;) <begin: define <macro: >>"},
		// a variable may be named as the macro, and the macro as a word of the grammar
		{"define macro define { define(?define:token) } => { ?define } end;", "define {?define:token} {?define}", ""},
	} {
		l := frags(t, x.text)
		m, rest, at, e := Define(l)
		var parts []string
		for _, n := range m {
			parts = append(parts, showMacro(n))
		}
		if got := strings.Join(parts, " | "); e != api.OK || at != 0 || got != x.macros || show(rest) != x.rest {
			t.Errorf("Define(%s) = %s, %s, %d, %d", x.text, got, show(rest), at, e)
		}
	}
}

func TestDefineKeepsTokens(t *testing.T) {
	l := frags(t, "define macro m { m(a) } => { b } end; c")
	l[1].Kids[3].Kids[0].Tok.Mark = 5
	m, rest, _, _ := Define(l)
	if got := m[0].Rules[0].Template[0].Tok; got.At != 29 || got.Mark != 5 {
		t.Errorf("the template has the token %v", got)
	}
	if got := rest[0].Tok; got.At != 38 {
		t.Errorf("the rest has the token %v", got)
	}
}

func TestDefineErrors(t *testing.T) {
	rules := func(n int) string { return strings.Repeat("{ m() } => { } ", n) }
	macro := func(s string) string { return "define macro " + s + " end; " }
	many := ""
	for i := range api.MaxMacros {
		many += macro(fmt.Sprintf("m%d { m%d() } => { }", i, i))
	}
	for _, x := range []struct {
		text string
		at   int
		e    api.Errno
	}{
		{macro("m " + rules(1)), 0, api.OK},
		{"define macro m { m() } => { } end", 0, api.ErrMacro},
		{"define macro m { m() } => { } end, x", 0, api.ErrMacro},
		{"a; define macro m { m() } => { } end x;", 2, api.ErrMacro},
		{"define define macro m end;", 1, api.ErrMacro},
		{"define " + macro("m "+rules(1)), 0, api.OK},
		{macro(""), 0, api.ErrMacro},
		{macro("m"), 0, api.ErrMacro},
		{macro("m;"), 0, api.ErrMacro},
		{macro("(m) { m() } => { }"), 0, api.ErrMacro},
		{macro("m; " + rules(1)), 0, api.ErrMacro},
		{macro("m " + rules(1) + ";;" + rules(1)), 0, api.ErrMacro},
		{macro("m " + rules(1) + "x"), 0, api.ErrMacro},
		{macro("m { m() } => "), 0, api.ErrMacro},
		{macro("m { m() } { }"), 0, api.ErrMacro},
		{macro("m { m() } = { }"), 0, api.ErrMacro},
		{macro("m ( m() ) => { }"), 0, api.ErrMacro},
		{macro("m { m() } => ( )"), 0, api.ErrMacro},
		{macro("m { } => { }"), 0, api.ErrMacro},
		{macro("m { m } => { }"), 0, api.ErrMacro},
		{macro("m { n() } => { }"), 0, api.ErrMacro},
		{macro("m { m[] } => { }"), 0, api.ErrMacro},
		{macro("m { m() x } => { }"), 0, api.ErrMacro},
		{macro("m { x m() } => { }"), 0, api.ErrMacro},
		{macro("m { m: () } => { }"), 0, api.ErrMacro},
		{macro("m { (m)() } => { }"), 0, api.ErrMacro},
		{macro("m { begin end } => { }"), 0, api.ErrMacro},
		{macro("m { m end } => { } { m() end } => { }"), 0, api.OK},
		{macro("m { m end } => { }; { begin end } => { }"), 0, api.ErrMacro},
		// macros that are not right
		{macro("m@l { m@l() } => { }"), 0, api.ErrMacro},
		{macro("m: { m:() } => { }"), 0, api.ErrMacro},
		{macro("if { if() end } => { }"), 0, api.ErrMacro},
		{macro("slot { slot() } => { }"), 0, api.ErrMacro},
		{macro("m { m(?x) } => { }"), 0, api.ErrMacro},
		{macro("m { m(?x:name) } => { ?y }"), 0, api.ErrMacro},
		{macro("m { m(?x:name) } => { ?x:name }"), 0, api.ErrMacro},
		{macro("m { m(?x:name ?x:name) } => { }"), 0, api.ErrMacro},
		{macro("m " + rules(api.MaxRules)), 0, api.OK},
		{macro("m " + rules(api.MaxRules+1)), 0, api.ErrMacro},
		// names that are there already, and too many macros
		{"x " + macro("m "+rules(1)) + macro("n { n() } => { }") + macro("m "+rules(1)), 7, api.ErrMacro},
		{macro("m "+rules(1)) + macro("m") + macro("n"), 3, api.ErrMacro},
		{many, 0, api.OK},
		{many + "x " + macro("m "+rules(1)), 3*api.MaxMacros + 1, api.ErrMacro},
	} {
		l := frags(t, x.text)
		if m, rest, at, e := Define(l); at != x.at || e != x.e || e != api.OK && (m != nil || rest != nil) {
			t.Errorf("Define(%s) = %d macros, %s, %d, %d; expected %d, %d", x.text, len(m), show(rest), at, e, x.at, x.e)
		}
	}
}

// TestDefineStatements has groups of the word m in texts that do not define it.
func TestDefineStatements(t *testing.T) {
	for _, x := range []struct {
		text string
		e    api.Errno
	}{
		{"define macro m { m end } => { } end;", api.OK},
		{"define macro m { m end x } => { } end;", api.ErrMacro},
		{"define macro m { m end () } => { } end;", api.ErrMacro},
		{"define macro m { x m end } => { } end;", api.ErrMacro},
		{"define macro n { m end } => { } end;", api.ErrMacro},
		{"define macro n { m end () } => { } end;", api.ErrMacro},
	} {
		l, _, _ := fragment.Read(toks(t, x.text), []string{"m"})
		if m, _, at, e := Define(l); e != x.e || at != 0 {
			t.Errorf("Define(%s) = %v, %d, %d; expected %d", x.text, m, at, e, x.e)
		}
	}
}

// TestDefineNamedByGroup has a group of the word m in the place of the macro's name.
func TestDefineNamedByGroup(t *testing.T) {
	l := frags(t, "define macro m { m end } => { } end;")
	l[1].Kids[0].Open = "m"
	if m, _, at, e := Define(l); e != api.ErrMacro || at != 0 {
		t.Errorf("Define = %v, %d, %d", m, at, e)
	}
}

// TestDefineBoth has a rule of each sort for one name, which cannot be read with one list of words.
func TestDefineBoth(t *testing.T) {
	function := frags(t, "define macro m { m() } => { } end;")
	statement := frags(t, "define macro m { m end } => { } end;")
	for _, pair := range [][2][]api.Frag{{function, statement}, {statement, function}} {
		both := slices.Clone(pair[0])
		both[1].Kids = append(slices.Clone(pair[0][1].Kids), pair[1][1].Kids[1:]...)
		if m, _, at, e := Define(both); e != api.ErrMacro || at != 0 {
			t.Errorf("Define of rules of both sorts = %v, %d, %d", m, at, e)
		}
		twice := slices.Clone(pair[0])
		twice[1].Kids = append(slices.Clone(pair[0][1].Kids), pair[0][1].Kids[1:]...)
		if m, _, _, e := Define(twice); e != api.OK || len(m[0].Rules) != 2 {
			t.Errorf("Define of rules of one sort = %v, %d", m, e)
		}
	}
}

func TestCheck(t *testing.T) {
	name := func(s string) api.Macro {
		m := one(nil, nil)
		m.Name = s
		return m
	}
	rules := func(n int) api.Macro {
		m := one(nil, nil)
		m.Rules = slices.Repeat(m.Rules, n)
		return m
	}
	vars := func(n int) []api.Frag {
		var l []api.Frag
		for i := range n {
			l = append(l, api.Frag{Tok: tok(fmt.Sprintf("?v%d:token", i))})
		}
		return l
	}
	second := one(nil, nil)
	second.Rules = append(second.Rules, api.MacroRule{Pattern: bad()})
	statement := one(nil, nil)
	statement.Statement = true
	for i, x := range []struct {
		m  api.Macro
		ok bool
	}{
		{one(nil, nil), true},
		{statement, true},
		{name("define"), true}, {name("<a>"), true}, {name("+a"), false},
		{name(""), false}, {name("m@l"), false}, {name("m:"), false}, {name("7"), false}, {name("("), false}, {name("?m"), false},
		{name("end"), false}, {name("slot"), false},
		{name("begin"), false}, {name("if"), false}, {name("block"), false}, {name("method"), false}, {name("class"), false}, {name("macro"), false},
		{rules(0), false}, {rules(1), true}, {rules(api.MaxRules), true}, {rules(api.MaxRules + 1), false},
		{second, false},
		{one(bad(), nil), false}, {one(nil, bad()), false},
		{one(deep(1, bad()...), nil), false}, {one(nil, deep(1, bad()...)), false},
		{one(deep(api.MaxDeep), nil), true}, {one(deep(api.MaxDeep+1), nil), false},
		{one(nil, deep(api.MaxDeep)), true}, {one(nil, deep(api.MaxDeep+1)), false},
		{one(wide(api.MaxTokens), nil), true}, {one(wide(api.MaxTokens+1), nil), false},
		{one(nil, wide(api.MaxTokens)), true}, {one(nil, wide(api.MaxTokens+1)), false},
		{one(vars(api.MaxArgs), nil), true}, {one(vars(api.MaxArgs+1), nil), false},
		{one(append(vars(8), deep(2, vars(17)[8:16]...)...), nil), true}, {one(append(vars(8), deep(2, vars(17)[8:]...)...), nil), false},
		{one(frags(t, "?a:name"), frags(t, "?a (?a [?a])")), true},
		{one(frags(t, "(?a:name)"), frags(t, "?a")), true},
		{one(frags(t, "?a:name"), frags(t, "?b")), false},
		{one(frags(t, "?a:name"), frags(t, "(x ?b)")), false},
		{one(frags(t, "?a:name"), frags(t, "?a:name")), false},
		{one(frags(t, "?a:name"), patGroup("?a")), false},
		{one(patGroup("?a:name"), nil), false},
		{one(nil, []api.Frag{{Tok: api.Token{Kind: api.TkPat, Text: "?"}}}), false},
	} {
		want := api.OK
		if !x.ok {
			want = api.ErrMacro
		}
		if e := Check(x.m); e != want {
			t.Errorf("%d: Check(%.80s) = %d; expected %d", i, showMacro(x.m), e, want)
		}
	}
}

// TestVariablesOfRules has the variables of one rule in the template of the other one.
func TestVariablesOfRules(t *testing.T) {
	m := one(frags(t, "?a:name"), frags(t, "?a"))
	m.Rules = append(m.Rules, api.MacroRule{Pattern: frags(t, "?b:name"), Template: frags(t, "?b")})
	if e := Check(m); e != api.OK {
		t.Errorf("Check = %d", e)
	}
	m.Rules[1].Template = frags(t, "?a")
	if e := Check(m); e != api.ErrMacro {
		t.Errorf("Check with a variable of the other rule = %d", e)
	}
}

// P3.1: Match

func TestMatch(t *testing.T) {
	const no = "no"
	for _, x := range []struct{ pattern, list, want string }{
		{"", "", ""}, {"", "a", no}, {"a", "", no}, {"a", "a", ""}, {"a", "b", no}, {"a", "a a", no}, {"a a", "a", no},
		{"a:", "a", no}, {"7", "7", ""}, {"7", "8", no}, {"#t", "#t", ""}, {"(", "", no},
		// groups
		{"()", "()", ""}, {"()", "[]", no}, {"(a)", "(a)", ""}, {"(a)", "()", no}, {"(a)", "(a b)", no}, {"()", "(a)", no}, {"(a [b] {c}) d", "(a [b] {c}) d", ""},
		{"(a)", "a", no}, {"a", "(a)", no}, {"begin a end", "begin a end", ""}, {"begin end", "if end", no}, {"(a)", "", no},
		// names and tokens
		{"?x:name", "a", "x: a"}, {"?x:name", "a@l", "x: a@l"}, {"?x:name", "a:", no}, {"?x:name", "7", no}, {"?x:name", "(a)", no}, {"?x:name", "", no}, {"?x:name", "begin end", no}, {"?x:name", "?y", no},
		{"?x:token", "a", "x: a"}, {"?x:token", "7", "x: 7"}, {"?x:token", ";", "x: ;"}, {"?x:token", "?y:name", "x: ?y:name"}, {"?x:token", "()", no}, {"?x:token", "", no}, {"?x:token", "a b", no},
		{"?x:name ?y:token (?z:name)", "a 1 (b)", "x: a | y: 1 | z: b"}, {"(?z:name) ?x:name", "(b) a", "z: b | x: a"},
		// expressions
		{"?x:expression", "a", "x: a"}, {"?x:expression", "", no}, {"?x:expression", "f(1, 2) + begin ; end", "x: f (1 , 2) + <begin: ;>"},
		{"?x:expression", "a, b", no}, {"?x:expression", "a; b", no}, {"?x:expression", "a => b", no}, {"?x:expression", ",", no},
		{"?x:expression , ?y:expression", "1, 2", "x: 1 | y: 2"}, {"?x:expression , ?y:expression", "1 , 2 , 3", no}, {"?x:expression ,", "1 ,", "x: 1"}, {"?x:expression ,", "1", no}, {"?x:expression , ?y:expression", ", 1", no},
		{"?x:expression = ?y:expression", "a = b", "x: a | y: b"}, {"?x:expression = ?y:expression", "a = b = c", "x: a | y: b = c"}, {"?x:expression = b", "a , = b", no}, {"?x:expression =", "a ; =", no},
		{"?x:expression a", "a", no}, {"?x:expression a", "b a", "x: b"}, {"?x:expression a", "b a:", no}, {"?x:expression a", "b (a)", no}, {"?x:expression a", "b (a) a", "x: b (a)"}, {"?x:expression 7", "b 7", "x: b"},
		{"(?x:expression) ?y:body", "(a) b", "x: a | y: b"}, {"(?x:expression)", "(a, b)", no}, {"(?x:expression)", "()", no}, {"(?x:expression ;) a", "(b ;) a", "x: b"}, {"[?x:expression] =>", "[a] =>", "x: a"},
		{"?x:expression => ?y:expression", "a => b", "x: a | y: b"}, {"?x:expression ; ?y:expression ;", "a; b;", "x: a | y: b"}, {"?x:expression , ?y:expression , (?z:expression)", "a, b, (c)", "x: a | y: b | z: c"},
		// bodies
		{"?x:body", "", "x: "}, {"?x:body", "a, b; c => d", "x: a , b ; c => d"}, {"?x:body ;", ";", "x: "}, {"?x:body ;", "a;", "x: a"}, {"?x:body ;", "a; b", no}, {"?x:body ;", "a", no}, {"?x:body ; b", "a; c; b", no},
		{"?x:body ; ?y:body", "a; b; c", "x: a | y: b ; c"}, {"?x:body a", "a a", no}, {"?x:body a", "(a) a", "x: (a)"}, {"?x:body a", "a: a", "x: a:"}, {"(?x:body)", "()", "x: "}, {"(?x:body) ?y:body", "(a)", "x: a | y: "}, {"begin ?x:body else ?y:body end", "begin a; else b end", "x: a ; | y: b"},
		{"?a:name = ?b:expression ; ?c:body", "x = f(1) + 2 ;", "a: x | b: f (1) + 2 | c: "},
		// nothing is tried in another way
		{"?x:body a b", "a c a b", no}, {"?x:expression a b", "c a a b", no},
	} {
		pattern, l := []api.Frag(nil), []api.Frag(nil)
		if x.pattern == "(" {
			pattern = []api.Frag{{Tok: tok("(")}}
			l = []api.Frag{{Tok: tok("("), Open: "("}}
		} else {
			pattern, l = frags(t, x.pattern), frags(t, x.list)
		}
		binds, is, e := Match(pattern, l)
		got := showBinds(binds)
		if !is {
			got = no
			if binds != nil {
				t.Errorf("Match(%s, %s) has the bindings %s, but does not match", x.pattern, x.list, showBinds(binds))
			}
		}
		if e != api.OK || got != x.want {
			t.Errorf("Match(%s, %s) = %s, %d; expected %s", x.pattern, x.list, got, e, x.want)
		}
	}
}

// TestMatchTokens has tokens that look like a group's beginning, and marks.
func TestMatchTokens(t *testing.T) {
	paren := []api.Frag{{Tok: tok("(")}}
	if binds, is, _ := Match(append(frags(t, "?x:body"), paren...), append(frags(t, "(a) b"), paren...)); !is || showBinds(binds) != "x: (a) b" {
		t.Errorf("Match with the stop ( = %s, %v", showBinds(binds), is)
	}
	if binds, is, _ := Match(frags(t, "?x:name"), []api.Frag{{Tok: tok("begin")}}); !is || showBinds(binds) != "x: begin" {
		t.Errorf("Match of a token begin = %s, %v", showBinds(binds), is)
	}
	l := frags(t, "a (b)")
	l[0].Tok.Mark, l[1].Tok.Mark, l[1].Kids[0].Tok.Mark = 3, 4, 5
	if binds, is, _ := Match(frags(t, "a (?x:name)"), l); !is || showBinds(binds) != "x: b^5" || binds[0].Frags[0].Tok.At != 3 {
		t.Errorf("Match of marked tokens = %s, %v", showBinds(binds), is)
	}
}

func TestMatchErrors(t *testing.T) {
	tooDeep, tooLong := deep(api.MaxDeep+1), wide(api.MaxTokens+1)
	ok := frags(t, "a")
	vars := func(n int) []api.Frag {
		return slices.Repeat(frags(t, "?x:name"), n)
	}
	sixteen := vars(api.MaxArgs)
	for i := range sixteen {
		sixteen[i].Tok = tok(fmt.Sprintf("?v%d:name", i))
	}
	for i, x := range []struct {
		pattern, l []api.Frag
		e          api.Errno
	}{
		{nil, nil, api.OK},
		{deep(api.MaxDeep), deep(api.MaxDeep), api.OK},
		{wide(api.MaxTokens), wide(api.MaxTokens), api.OK},
		{tooDeep, tooLong, api.ErrDeep}, {tooLong, tooDeep, api.ErrLong},
		{append(tooDeep, tooLong...), nil, api.ErrDeep}, {nil, append(tooDeep, tooLong...), api.ErrDeep},
		{bad(), tooDeep, api.ErrDeep}, {bad(), tooLong, api.ErrLong}, {ok, tooDeep, api.ErrDeep}, {ok, tooLong, api.ErrLong},
		{bad(), ok, api.ErrMacro}, {deep(2, bad()...), nil, api.ErrMacro},
		{frags(t, "?x"), ok, api.ErrMacro}, {frags(t, "?x:foo"), ok, api.ErrMacro}, {frags(t, "?x:names"), ok, api.ErrMacro},
		{frags(t, "?x:name ?x:token"), ok, api.ErrMacro}, {frags(t, "?x:name (?x:name)"), ok, api.ErrMacro}, {frags(t, "(?x:name) (?x:name)"), ok, api.ErrMacro},
		{patGroup("?x:name"), ok, api.ErrMacro}, {deep(1, patGroup("?x:name")...), ok, api.ErrMacro},
		{[]api.Frag{{Tok: api.Token{Kind: api.TkPat, Text: "?x:name", Mark: -1}}}, ok, api.ErrMacro},
		{[]api.Frag{{Tok: api.Token{Kind: api.TkPat, Text: "x:name"}}}, ok, api.ErrMacro},
		{[]api.Frag{{Tok: api.Token{Kind: api.TkName, Text: "a", At: -1}}}, ok, api.ErrMacro},
		{sixteen, ok, api.OK}, {append(sixteen, frags(t, "?x:name")...), ok, api.ErrMacro},
		// what follows an expression or a body
		{frags(t, "?x:expression (a)"), ok, api.ErrMacro}, {frags(t, "?x:body (a)"), ok, api.ErrMacro}, {frags(t, "?x:body begin end"), ok, api.ErrMacro},
		{frags(t, "?x:expression ?y:name"), ok, api.ErrMacro}, {frags(t, "?x:body ?y:token"), ok, api.ErrMacro}, {frags(t, "(?x:body ?y:body)"), ok, api.ErrMacro},
		{frags(t, "?x:expression a (b)"), ok, api.OK}, {frags(t, "(?x:expression) (?y:body)"), ok, api.OK}, {frags(t, "?x:name ?y:token (?z:body)"), ok, api.OK},
		{append(frags(t, "?x:body"), bad()...), ok, api.ErrMacro},
	} {
		if binds, is, e := Match(x.pattern, x.l); e != x.e || e != api.OK && (is || binds != nil) {
			t.Errorf("%d: Match(%.80s) = %s, %v, %d; expected %d", i, show(x.pattern), showBinds(binds), is, e, x.e)
		}
	}
}

// P3.1: Fill

func TestFill(t *testing.T) {
	a := api.MacroBind{Name: "a", Frags: frags(t, "x (y)")}
	a.Frags[1].Tok.Mark, a.Frags[1].Kids[0].Tok.Mark = 7, 8
	for _, x := range []struct {
		template string
		binds    []api.MacroBind
		mark     int
		want     string
	}{
		{"", nil, 0, ""}, {"", []api.MacroBind{a}, 3, ""},
		{"b (c [d] {}) begin e end", nil, 3, "b^3 (^3c^3 [^3d^3] {^3}) <begin^3: e^3>"},
		{"?a", []api.MacroBind{a}, 3, "x (^7y^8)"}, {"?a + ?a", []api.MacroBind{a}, 3, "x (^7y^8) +^3 x (^7y^8)"},
		{"(?a b)", []api.MacroBind{a}, 1, "(^1x (^7y^8) b^1)"}, {"b ?a", []api.MacroBind{a}, 0, "b x (^7y^8)"},
		{"b ?a ?n c", []api.MacroBind{{Name: "n"}, a}, 2, "b^2 x (^7y^8) c^2"}, {"?n", []api.MacroBind{{Name: "n"}}, 2, ""},
		// bindings' variables are not filled
		{"?a", []api.MacroBind{{Name: "a", Frags: frags(t, "?a ?b:name")}}, 2, "?a ?b:name"},
	} {
		if l, e := Fill(frags(t, x.template), x.binds, x.mark); e != api.OK || show(l) != x.want {
			t.Errorf("Fill(%s, %s) = %s, %d; expected %s", x.template, showBinds(x.binds), show(l), e, x.want)
		}
	}
	marked := frags(t, "b (c)")
	marked[0].Tok.Mark, marked[1].Kids[0].Tok.Mark = 4, 5
	if l, _ := Fill(marked, nil, 0); show(l) != "b (c)" || l[0].Tok.At != 0 || l[1].Kids[0].Tok.At != 3 {
		t.Errorf("Fill of marked tokens = %s", show(l))
	}
}

func TestFillErrors(t *testing.T) {
	tooDeep, tooLong := deep(api.MaxDeep+1), wide(api.MaxTokens+1)
	a := func(l ...api.Frag) []api.MacroBind { return []api.MacroBind{{Name: "a", Frags: l}} }
	ab := func(l, m []api.Frag) []api.MacroBind {
		return []api.MacroBind{{Name: "a", Frags: l}, {Name: "b", Frags: m}}
	}
	two := append(a(), a()...)
	use := frags(t, "?a")
	for i, x := range []struct {
		template []api.Frag
		binds    []api.MacroBind
		mark     int
		e        api.Errno
	}{
		{append(tooDeep, tooLong...), a(tooLong...), -1, api.ErrDeep}, {tooLong, a(tooDeep...), -1, api.ErrLong},
		{bad(), ab(tooDeep, tooLong), -1, api.ErrDeep}, {bad(), ab(tooLong, tooDeep), -1, api.ErrLong}, {bad(), ab(nil, append(tooDeep, tooLong...)), -1, api.ErrDeep},
		{nil, a(tooLong...), 0, api.ErrLong},
		{nil, two, -1, api.ErrMacro}, {use, append(ab(nil, nil), a()...), 0, api.ErrMacro},
		{frags(t, "?b"), a(), -1, api.ErrMacro}, {frags(t, "?a:name"), a(), 0, api.ErrMacro}, {frags(t, "(x ?b)"), a(), 0, api.ErrMacro}, {use, nil, 0, api.ErrMacro},
		{bad(), nil, -1, api.ErrMacro}, {deep(3, bad()...), nil, 0, api.ErrMacro}, {patGroup("?a"), a(), 0, api.ErrMacro}, {deep(1, patGroup("?a")...), a(), 0, api.ErrMacro},
		{[]api.Frag{{Tok: api.Token{Kind: api.TkPat}}}, []api.MacroBind{{}}, 0, api.ErrMacro},
		{[]api.Frag{{Tok: api.Token{Kind: api.TkPat, Text: "?a", At: -1}}}, a(), 0, api.ErrMacro},
		{nil, []api.MacroBind{{}}, 0, api.OK},
		{nil, nil, -1, api.ErrArg}, {append(use, use...), a(wide(api.MaxTokens)...), -1, api.ErrArg},
		{use, a(wide(api.MaxTokens)...), 0, api.OK}, {append(frags(t, "x"), use...), a(wide(api.MaxTokens)...), 0, api.ErrLarge}, {append(use, frags(t, "x")...), a(wide(api.MaxTokens)...), 0, api.ErrLarge},
		{slices.Repeat(use, api.MaxTokens), a(wide(1)...), 0, api.OK}, {slices.Repeat(use, api.MaxTokens), a(wide(2)...), 0, api.ErrLarge}, {slices.Repeat(use, api.MaxTokens), a(wide(api.MaxTokens)...), 0, api.ErrLarge},
		{slices.Repeat(use, api.MaxTokens), a(), 0, api.OK},
		{frags(t, "(?a)"), a(wide(api.MaxTokens - 2)...), 0, api.OK}, {frags(t, "(?a)"), a(wide(api.MaxTokens - 1)...), 0, api.ErrLarge},
		{deep(40, use...), a(deep(60)...), 0, api.OK}, {deep(40, use...), a(deep(61)...), 0, api.ErrLarge}, {deep(100, use...), a(deep(100)...), 0, api.ErrLarge}, {deep(100, use...), a(frags(t, "x y")...), 0, api.OK},
	} {
		if l, e := Fill(x.template, x.binds, x.mark); e != x.e || e != api.OK && l != nil {
			t.Errorf("%d: Fill(%.80s) = %d fragments, %d; expected %d", i, show(x.template), len(l), e, x.e)
		}
	}
}
