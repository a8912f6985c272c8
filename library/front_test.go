package library

import (
	"testing"

	"skerry/api"
	"skerry/syntax"
)

const (
	incText   = "define macro inc { inc (?e:expression) } => { ?e + 1 } end;"
	twiceText = "define macro twice { twice (?e:expression) } => { ?e * 2 } end;"
	whileText = "define macro while { while (?c:expression) ?b:body end } => { if (?c) ?b else 0 end } end;"
	unless    = "define macro unless { unless ?c:expression ; ?b:body end } => { if (~ ?c) ?b end } end;"
)

// kit is interfaces with macros: some names stand in several of them.
func kit(t *testing.T) []api.Interface {
	reserved := plain("use") // no library is named so, but an interface may be
	reserved.Macros = macros(t, twiceText)
	return []api.Interface{
		shown(t, "library one; "+incText+whileText),
		shown(t, "library two; define macro inc { inc (?e:expression) } => { ?e + 2 } end; define macro dec { dec (?e:expression) } => { ?e - 2 } end;"),
		shown(t, "library three; "+unless+"define macro while { while (?e:expression) } => { ?e + 3 } end; define macro dec { dec ?e:expression end } => { ?e - 3 } end;"),
		reserved,
		plain("none"),
	}
}

// P6.1
func TestUses(t *testing.T) {
	used := kit(t)
	for _, x := range []struct{ text, want string }{
		{"", ""}, {"use one;", "inc while"}, {"use two;", "inc dec"}, {"library a ; use /* */ three\n; one", "unless while dec"},
		// in the order of the interfaces, of several with the same name the first one
		{"use one; use two; use three;", "inc while dec unless"}, {"use three; use two;", "inc dec unless while"}, {"use three; use none; use two; use one; use three;", "inc while dec unless"}, {"use two; use one;", "inc while dec"},
		// other tokens
		{"use one", ""}, {"use one,", ""}, {"use one )", ""}, {"use one one;", ""}, {"use , one;", ""}, {"use;", ""}, {"use: one;", ""}, {"?use one;", ""}, {"one;", ""}, {"use one , ;", ""}, {"use one . ; use two ; ;", "inc dec"},
		{"use one, prefix: x_;", ""}, {"use one, import: { inc };", ""}, {"use one, import: { inc => while }; use three, prefix: p;", ""}, {"use one, prefix: two; use two;", "inc dec"},
		{"use one: ;", ""}, {"use 1 ;", ""}, {"use #t ;", ""}, {"use ?one ;", ""}, {"use one@two ;", ""}, {"use four ;", ""}, {"use none ;", ""}, {"use one := 1", ""},
		{"use use ;", "twice"}, {"use use use ;", "twice"}, {"use use one ;", "inc while"}, {"use use ; use one ;", "inc while twice"},
		// wherever it stands
		{"begin ( use one ; ] use", "inc while"}, {"define macro m { m ( ) } => { use two ; } end", "inc dec"},
	} {
		got, e := Uses(x.text, used)
		if e != api.OK || names(got) != x.want {
			t.Errorf("Uses(%s) = %s, %d; expected %s", x.text, names(got), e, x.want)
		}
		if !apart(got, used) {
			t.Errorf("Uses(%s) shares memory", x.text)
		}
	}
	got, _ := Uses("use one; use two; use three;", used)
	for i, want := range []api.Macro{used[0].Macros[0], used[0].Macros[1], used[1].Macros[1], used[2].Macros[0]} {
		if !same(got[i], want) {
			t.Errorf("Uses returns %+v at %d; expected %+v", got[i], i, want)
		}
	}
	for text, want := range map[string]api.Errno{"use one; \"": api.ErrByte, "use one; 007": api.ErrDigit, "use one; #x": api.ErrHash, "use one; /*": api.ErrComment, "use one;" + times(api.MaxText, " "): api.ErrLong, "use one;" + times(6000, "a "): api.ErrLong} {
		if l, e := Uses(text, used); e != want || l != nil {
			t.Errorf("Uses(%.20s) = %s, %d; expected %d", text, names(l), e, want)
		}
	}
	if l, e := Uses("use one;", nil); e != api.OK || len(l) != 0 {
		t.Errorf("Uses without interfaces = %s, %d", names(l), e)
	}
}

// P6.1, P6.5, P6.6: a text, and one without macros that has the same source.
func TestFront(t *testing.T) {
	used := kit(t)
	const m = "library m; "
	for _, x := range []struct{ text, own, want string }{
		{"library m;", "", "library m;"}, {"patch m;", "", "patch m;"}, {m + "1 + 2", "", m + "1 + 2"},
		{m + "define method f (o) o end method f;", "", m + "define method f (o) o end;"}, {m + "define class <c> (<object>) end class; <c>;", "", m + "define class <c> (<object>) end; <c>"},
		// own macros
		{m + incText + "inc (3)", "inc", m + "3 + 1"}, {m + incText + whileText + "while (inc (1)) 2 end", "inc while", m + "if (1 + 1) 2 else 0 end"}, {m + "define constant k = inc (3);" + incText, "inc", m + "define constant k = 3 + 1;"},
		{m + incText + "inc", "inc", m + "inc"}, {m + incText + "inc (inc (2))", "inc", m + "2 + 1 + 1"}, {"patch m; " + incText, "inc", "patch m;"},
		{m + "define macro inc { inc (?e:expression) } => { twice (?e) - 1 } end;" + twiceText + "inc (k)", "inc twice", m + "k * 2 - 1"},
		// macros that are used
		{m + "use one; inc (3)", "", m + "use one; 3 + 1"}, {m + "use two; inc (3)", "", m + "use two; 3 + 2"}, {m + "use two; use one; inc (3)", "", m + "use two; use one; 3 + 1"},
		{m + "use one; while (1) inc (2) end", "", m + "use one; if (1) 2 + 1 else 0 end"}, {m + "use three; unless a ; b end", "", m + "use three; if (~ a) b end"}, {m + "use three; while (4)", "", m + "use three; 4 + 3"}, {m + "use three; use one; while (4) 5 end", "", m + "use three; use one; if (4) 5 else 0 end"},
		{m + "use one, prefix: p; inc (3)", "", m + "use one, prefix: p; inc (3)"}, {m + "use one, import: { inc }; while (3)", "", m + "use one, import: { inc }; while (3)"}, {m + "inc (3)", "", m + "inc (3)"}, {m + "use three; inc (3)", "", m + "use three; inc (3)"},
		{m + "use two; use three; dec (4)", "", m + "use two; use three; 4 - 2"}, {m + "use three; dec 4 end", "", m + "use three; 4 - 3"},
		// own ones hide those that are used
		{m + "use one; define macro inc { inc (?e:expression) } => { ?e - 9 } end; inc (3)", "inc", m + "use one; 3 - 9"}, {m + "use one; " + twiceText + "twice (inc (3))", "twice", m + "use one; 3 + 1 * 2"}, {m + "use one; define macro while { while ?b:body end } => { begin ?b end } end; while 1; inc (2) end", "while", m + "use one; begin 1; 2 + 1 end"},
		{m + "use two; define macro dec { dec ?b:body end } => { begin ?b end } end; dec 3 end", "dec", m + "use two; 3"}, {m + "use one; define macro m { m (?e:expression) } => { inc (?e) } end; define macro inc { inc (?e:expression) } => { 0 - ?e } end; m (3)", "m inc", m + "use one; 0 - 3"},
		{m + "use one; define macro m { m (?e:expression) } => { inc (?e) } end; m (3)", "m", m + "use one; 3 + 1"},
	} {
		got, own, where, e := Front(x.text, used)
		if want := source(t, x.want); e != api.OK || where != (api.Trouble{}) || !same(got, want) || names(own) != x.own {
			text, _ := syntax.Print(got)
			t.Errorf("Front(%s) = %s, %s, %v, %d; expected %s, %s", x.text, text, names(own), where, e, x.want, x.own)
		}
		if !apart(got, own, used) {
			t.Errorf("Front(%s) shares memory", x.text)
		}
	}
	_, own, _, _ := Front(m+incText+whileText, nil)
	if want := kit(t)[0].Macros; len(own) != 2 || !equalMacros(own[0], want[0]) || !equalMacros(own[1], want[1]) {
		t.Errorf("Front returns other macros than a text has: %+v", own)
	}
}

// refused is a text that a step refuses.
type refused struct {
	text      string
	e         api.Errno
	layer, at int
}

// P6.1: each step refuses a text. Behind each of them stand texts that a step refuses that comes later, which has an error further to the left.
func TestFrontErrors(t *testing.T) {
	used := kit(t)
	const m, bad = "library m ; ", "library library ; define macro ; "
	for _, x := range []refused{
		{m + "\"", api.ErrByte, 1, 12}, {"\"", api.ErrByte, 1, 0}, {m + "  007", api.ErrDigit, 1, 14}, {m + "a #x", api.ErrHash, 1, 14}, {m + "/* a", api.ErrComment, 1, 12}, {m + times(api.MaxText, " "), api.ErrLong, 1, 0}, {m + times(41, "a"), api.ErrLong, 1, 12}, {times(6001, ";"), api.ErrLong, 1, 6000},
		{bad + "begin \"", api.ErrByte, 1, 39}, {"end 3x", api.ErrDigit, 1, 4},
		{m + "begin", api.ErrOpen, 2, 3}, {m + "end", api.ErrStray, 2, 3}, {m + "( ]", api.ErrStray, 2, 4}, {m + times(101, "("), api.ErrDeep, 2, 103}, {m + whileText + "while (", api.ErrOpen, 2, 28}, {m + whileText + "while", api.ErrOpen, 2, 27},
		{m + "use one ; while", api.ErrOpen, 2, 6}, {m + "use two ; while ; end", api.ErrStray, 2, 8}, {m + "use one , prefix: x ; while ; end", api.ErrStray, 2, 11}, {m + "use three ; while ; end", api.ErrStray, 2, 8}, {m + "use three ; use one ; unless ; while end", api.ErrOpen, 2, 9},
		{bad + ")", api.ErrStray, 2, 6}, {m + "use one ; define macro while { while ( ) } => { } end ; a", api.ErrStray, 2, 13},
		{m + "define macro m end ;", api.ErrMacro, 3, 3}, {m + incText + incText, api.ErrMacro, 3, 6}, {m + "1 ; define macro m { m } => { } end ;", api.ErrMacro, 3, 5}, {m + functions("f", 40) + incText, api.ErrMacro, 3, 3 * 41}, {"library library ; define macro m end ; inc (", api.ErrOpen, 2, 9}, {"library library ; define macro m end ; inc ( )", api.ErrMacro, 3, 3},
		{m + incText + "inc ( )", api.ErrMatch, 3, 3}, {m + "use one ; a + inc ( )", api.ErrMatch, 3, 8}, {m + "use one ; ( [ while end ] )", api.ErrMatch, 3, 8}, {m + "define macro r { r (?e:body) } => { r (?e) } end ; r ( )", api.ErrMarks, 3, 0}, {m + "define macro l { l (?e:body) } => { ?e " + times(40, "?e ") + "} end ; l ( " + times(200, "1 ") + ")", api.ErrLarge, 3, 3}, {"library library ; use one ; inc ( )", api.ErrMatch, 3, 6},
		{m + "define", api.ErrParse, 4, 4}, {"", api.ErrParse, 4, 0}, {"library library ;", api.ErrReserve, 4, 1}, {m + "let ; if", api.ErrOpen, 2, 5}, {m + "let", api.ErrReserve, 4, 3}, {m + incText + "inc ( 2 ) 3", api.ErrParse, 4, 6}, {m + "use one ; inc ( ; ( ) )", api.ErrMatch, 3, 6}, {m + "use one ; 1 + inc ( 1 + + )", api.ErrParse, 4, 10}, {m + times(201, "- "), api.ErrDeep, 4, 3 + 200}, {m + "define constant a = 1 ; define constant a@b = 1 ;", api.ErrForm, 4, 15}, {m + "use one ; use one ;", api.ErrForm, 4, 9},
	} {
		s, own, where, e := Front(x.text, used)
		if e != x.e || where != (api.Trouble{Layer: x.layer, At: x.at}) {
			t.Errorf("Front(%.80s) = %v, %d; expected %d in layer %d at %d", x.text, where, e, x.e, x.layer, x.at)
		}
		if !same(s, api.Source{}) || own != nil {
			t.Errorf("Front(%.80s) has an error, and returns %v, %v", x.text, s, own)
		}
		u, where, e := Build(x.text, used)
		if e != x.e || where != (api.Trouble{Layer: x.layer, At: x.at}) || !same(u, api.Unit{}) {
			t.Errorf("Build(%.80s) = %v, %v, %d; expected %d in layer %d at %d", x.text, u, where, e, x.e, x.layer, x.at)
		}
	}
}

// P6.1: the numbers of words and macros, just within the limits and just beyond.
func TestFrontLimits(t *testing.T) {
	const m = "library m; "
	full := []api.Interface{shown(t, "library s; "+statements("s", 40)), shown(t, "library f; "+functions("f", 40)), shown(t, "library t; "+statements("s", 41)[len(statements("s", 1)):]), shown(t, "library g; "+functions("g", 1))}
	for _, x := range []struct {
		text      string
		e         api.Errno
		layer, at int
	}{
		{m + "use s; s39 end", api.OK, 0, 0}, {m + "use f; f39 ( )", api.OK, 0, 0}, {m + functions("h", 40) + "h39 ( )", api.OK, 0, 0}, {m + statements("h", 40) + "h39 end", api.OK, 0, 0},
		{m + "use s;" + statements("s", 40) + "s39 end", api.OK, 0, 0}, {m + "use f;" + functions("f", 40), api.OK, 0, 0}, {m + "use t;", api.OK, 0, 0}, {m + functions("h", 40) + "use g, prefix: x;", api.OK, 0, 0},
		{m + "use s; use t;", api.ErrArg, 2, 0}, {m + "use t;" + statements("s", 1), api.ErrArg, 2, 0}, {m + "use t;" + functions("s", 1), api.ErrMacro, 3, 0}, {m + "use s;" + statements("h", 1), api.ErrArg, 2, 0}, {m + "use s; use f; f0 ( )", api.ErrMacro, 3, 0}, {m + "use f; use g;", api.ErrMacro, 3, 0}, {m + "use g;" + functions("h", 39) + "g0 ( )", api.OK, 0, 0}, {m + "use g;" + functions("h", 40), api.ErrMacro, 3, 0}, {m + "use g;" + functions("g", 40), api.OK, 0, 0}, {m + "use f;" + functions("h", 1), api.ErrMacro, 3, 0}, {m + "use s; use t; use g; s40 end (", api.ErrArg, 2, 0},
	} {
		_, _, where, e := Front(x.text, full)
		if e != x.e || where != (api.Trouble{Layer: x.layer, At: x.at}) {
			t.Errorf("Front(%.60s..) = %v, %d; expected %d in layer %d at %d", x.text, where, e, x.e, x.layer, x.at)
		}
	}
}
