package macro

import (
	"fmt"
	"slices"
	"strings"
	"testing"

	"skerry/api"
)

const (
	loopText  = "define macro m { m(?e:body) } => { m(?e) } end; "
	countText = "define macro count { count() } => { } { count(?a:token ?r:body) } => { ?a count(?r) } end; " // one expansion more than tokens
	nestText  = "define macro nest { nest(?e:body) } => { (?e) } end; "
	unitText  = "define macro unit { unit() } => { u } end; define macro both { both end } => { 0 } { both ?x:name end } => { ?x ?x } { both ?x:token end } => { [?x] } end; "
)

// call is a call of a function macro.
func calling(name string, given ...api.Frag) []api.Frag {
	return []api.Frag{{Tok: tok(name)}, {Tok: tok("("), Open: "(", Kids: given}}
}

// manyMacros are n macros with different names.
func manyMacros(n int) []api.Macro {
	var l []api.Macro
	for i := range n {
		m := one(nil, nil)
		m.Name = fmt.Sprintf("m%d", i)
		l = append(l, m)
	}
	return l
}

// P3.1: Once

func TestOnce(t *testing.T) {
	m := macros(t, dText+unitText)
	for _, x := range []struct {
		text string
		mark int
		want string
		x    string
	}{
		{"unit()", 0, "u", "unit 0 0 0 []"},
		{"unit()", 5, "u^5", "unit 0 5 0 []"},
		{"a unit() unit() b", 5, "a u^5 unit () b", "unit 0 5 1 []"},
		{"both end", 2, "0^2", "both 0 2 0 []"}, {"both a end", 2, "a a", "both 1 2 0 [x: a]"}, {"both 1 end", 2, "[^21]", "both 2 2 0 [x: 1]"},
		// the first token counts
		{"(unit) (both end) unit()", 1, "(unit) (0^1) unit ()", "both 0 1 4 []"},
		{"f((a [b] begin unit() end) c) unit()", 1, "f ((a [b] <begin: u^1>) c) unit ()", "unit 0 1 8 []"},
		{"f(twice(twice(x)))", 7, "f (<begin^7: let^7 x^7 =^7 twice (x) ;^7 x^7 +^7 x^7>)", "twice 0 7 2 [e: twice (x)]"},
		// a call is ahead of those within it
		{"while (twice(a)) unit() end both end", 3, "<block^3: (^3done^3) local^3 <method^3: loop^3 (^3) <if^3: (^3twice (a)) <begin^3: unit ()> ;^3 loop^3 (^3) else^3 done^3 (^3#f^3)>> ;^3 loop^3 (^3)> <both: >", "while 0 3 0 [c: twice (a) | b: unit ()]"},
		// no calls
		{"", 1, "", ""}, {"unit", 1, "unit", ""}, {"unit []", 1, "unit []", ""}, {"unit begin end", 1, "unit <begin: >", ""}, {"unit x ()", 1, "unit x ()", ""}, {"(unit) ()", 1, "(unit) ()", ""}, {"unit: ()", 1, "unit: ()", ""}, {"unit@l ()", 1, "unit@l ()", ""}, {"a (b)", 1, "a (b)", ""},
	} {
		l := frags(t, x.text, "while", "both")
		got, y, found, e := Once(m, l, x.mark)
		shown := ""
		if found {
			shown = showExpansions([]api.Expansion{y})
		}
		if e != api.OK || show(got) != x.want || shown != x.x || found != (x.x != "") || !found && !sameExpansions([]api.Expansion{y}, []api.Expansion{{}}) {
			t.Errorf("Once(%s) = %s, %s, %v, %d; expected %s, %s", x.text, show(got), showExpansions([]api.Expansion{y}), found, e, x.want, x.x)
		}
	}
}

// TestOnceOthers has names in the places in which macros of the other sort are called.
func TestOnceOthers(t *testing.T) {
	m := macros(t, unitText)
	if n := Calls(m, []api.Frag{{Tok: tok("both")}, {Tok: tok("("), Open: "("}}); n != 0 {
		t.Errorf("a name and a group are %d calls of a statement macro", n)
	}
	if n := Calls(m, []api.Frag{{Tok: tok("unit"), Open: "unit"}}); n != 0 {
		t.Errorf("a group is %d calls of a function macro", n)
	}
}

func TestOnceErrors(t *testing.T) {
	tooDeep, tooLong := deep(api.MaxDeep+1), wide(api.MaxTokens+1)
	m := append(macros(t, unitText+nestText), one(frags(t, "?e:token"), frags(t, "?e ?e")))
	twin := append(slices.Clone(m), m[0])
	long := one(nil, wide(api.MaxTokens))
	call := api.Expansion{Macro: "m", Mark: 4, At: 1}
	for i, x := range []struct {
		m     []api.Macro
		l     []api.Frag
		mark  int
		want  api.Expansion
		found bool
		e     api.Errno
	}{
		{twin, append(tooDeep, tooLong...), -1, api.Expansion{}, false, api.ErrDeep},
		{twin, tooLong, -1, api.Expansion{}, false, api.ErrLong},
		{twin, nil, -1, api.Expansion{}, false, api.ErrMacro},
		{[]api.Macro{one(bad(), nil)}, nil, -1, api.Expansion{}, false, api.ErrMacro},
		{manyMacros(api.MaxMacros + 1), nil, 0, api.Expansion{}, false, api.ErrMacro},
		{m, nil, -1, api.Expansion{}, false, api.ErrArg}, {m, calling("m"), -1, api.Expansion{}, false, api.ErrArg},
		{m, append(wide(1), calling("m")...), 4, call, true, api.ErrMatch},
		{m, append(wide(1), calling("m", wide(2)...)...), 4, call, true, api.ErrMatch},
		{m, append(wide(1), deep(1, calling("m", deep(1)...)...)...), 4, api.Expansion{Macro: "m", Mark: 4, At: 2}, true, api.ErrMatch},
		{[]api.Macro{long}, append(wide(1), calling("m")...), 4, call, true, api.ErrLarge},
		{[]api.Macro{long}, append(calling("m"), wide(1)...), 0, api.Expansion{Macro: "m"}, true, api.ErrLarge},
		{[]api.Macro{one(nil, deep(api.MaxDeep))}, deep(1, calling("m")...), 4, call, true, api.ErrLarge},
		{m, deep(api.MaxDeep-1, calling("nest")...), 4, api.Expansion{}, true, api.OK},
		{m, deep(60, calling("nest", deep(39)...)...), 4, api.Expansion{}, true, api.OK},
		{[]api.Macro{one(frags(t, "?e:body"), deep(2, frags(t, "?e")...))}, deep(60, calling("m", deep(39)...)...), 4, api.Expansion{Macro: "m", Mark: 4, At: 60}, true, api.ErrLarge},
		{[]api.Macro{long}, calling("m"), 4, api.Expansion{}, true, api.OK},
	} {
		l, y, found, e := Once(x.m, x.l, x.mark)
		if e != x.e || found != x.found || e != api.OK && (l != nil || !sameExpansions([]api.Expansion{y}, []api.Expansion{x.want})) {
			t.Errorf("%d: Once(%.80s) = %.80s, %v, %v, %d; expected %v, %d", i, show(x.l), show(l), y, found, e, x.want, x.e)
		}
	}
}

// P3.1: Expand, With

func TestExamples(t *testing.T) {
	l, x, at, e := Expand(frags(t, dText+"twice(x)"))
	if e != api.OK || at != 0 || show(l) != "<begin^1: let^1 x^1 =^1 x ;^1 x^1 +^1 x^1>" || showExpansions(x) != "twice 0 1 0 [e: x]" {
		t.Errorf("Expand of twice = %s, %s, %d, %d", show(l), showExpansions(x), at, e)
	}
	l, x, _, e = Expand(frags(t, dText+"while (twice(a)) f() end"))
	if e != api.OK || len(x) != 2 || x[0].Macro != "while" || x[0].Mark != 1 || x[1].Macro != "twice" || x[1].Mark != 2 || x[1].At != 11 {
		t.Errorf("Expand of while = %s, %s, %d", show(l), showExpansions(x), e)
	}
	m := macros(t, dText)
	if l, x, at, e := With(m, frags(t, "twice()")); e != api.ErrMatch || at != 0 || l != nil || x != nil {
		t.Errorf("With of twice() = %s, %d, %d", show(l), at, e)
	}
	if l, x, at, e := With(m, frags(t, "twice")); e != api.OK || at != 0 || show(l) != "twice" || x != nil {
		t.Errorf("With of twice = %s, %d, %d", show(l), at, e)
	}
	if l, x, at, e := With(macros(t, loopText), frags(t, "m()")); e != api.ErrMarks || at != 0 || l != nil || x != nil {
		t.Errorf("With of m() = %s, %d, %d", show(l), at, e)
	}
}

func TestWith(t *testing.T) {
	text := unitText + countText + nestText +
		"define macro apply { apply(?f:name, ?a:body) } => { ?f(?a) } end; define macro args { args() } => { (1) } end; " +
		"define macro take { take(?a:name) } => { ?a } end; "
	for _, x := range []struct{ text, want, x string }{
		{"", "", ""}, {"a (b)", "a (b)", ""},
		{"unit() unit()", "u^1 u^2", "unit 0 1 0 [] unit 0 2 1 []"},
		{"count(a b)", "a b", "count 1 1 0 [a: a | r: b] count 1 2 1 [a: b | r: ] count 0 3 2 []"},
		// calls within calls, ahead of what stands behind them
		{"nest(unit()) both 1 end", "(^1u^2) [^31]", "nest 0 1 0 [e: unit ()] unit 0 2 1 [] both 2 3 3 [x: 1]"},
		// calls that an expansion inserts, or makes of what stands ahead of it or behind it
		{"apply(unit, )", "u^2", "apply 0 1 0 [f: unit | a: ] unit 0 2 0 []"},
		{"take(unit)()", "u^2", "take 0 1 0 [a: unit] unit 0 2 0 []"},
		{"nest args()", "(^21^1)", "args 0 1 1 [] nest 0 2 0 [e: 1^1]"},
		{"take(take)(unit) ()", "u^3", "take 0 1 0 [a: take] take 0 2 0 [a: unit] unit 0 3 0 []"},
		{"take(unit) unit()", "unit u^2", "take 0 1 0 [a: unit] unit 0 2 1 []"},
	} {
		l, y, at, e := With(macros(t, text), frags(t, x.text, "both"))
		if e != api.OK || at != 0 || show(l) != x.want || showExpansions(y) != x.x {
			t.Errorf("With(%s) = %s, %s, %d, %d; expected %s, %s", x.text, show(l), showExpansions(y), at, e, x.want, x.x)
		}
	}
}

// TestWithCounts has macros that are expanded just as often as is allowed, and once more.
func TestWithCounts(t *testing.T) {
	m := macros(t, countText)
	for n, want := range map[int]api.Errno{api.MaxMarks - 1: api.OK, api.MaxMarks: api.ErrMarks} {
		l, x, at, e := With(m, calling("count", wide(n)...))
		if e != want || at != 0 || e == api.OK && (len(x) != n+1 || x[n].Mark != n+1 || !same(l, wide(n))) || e != api.OK && (l != nil || x != nil) {
			t.Errorf("With of %d tokens = %d fragments, %d expansions, %d, %d; expected %d", n, len(l), len(x), at, e, want)
		}
	}
	// the call that is left need not match
	units := slices.Repeat(calling("unit"), api.MaxMarks)
	m = macros(t, unitText)
	if l, x, _, e := With(m, units); e != api.OK || len(x) != api.MaxMarks || len(l) != api.MaxMarks {
		t.Errorf("With of MaxMarks calls = %d fragments, %d", len(l), e)
	}
	if _, _, at, e := With(m, append(units, calling("unit", wide(1)...)...)); e != api.ErrMarks || at != 0 {
		t.Errorf("With of one call more = %d, %d", at, e)
	}
}

func TestWithErrors(t *testing.T) {
	tooDeep, tooLong := deep(api.MaxDeep+1), wide(api.MaxTokens+1)
	m := macros(t, unitText+nestText)
	grow := macros(t, "define macro grow { grow(?e:body) } => { (grow(?e)) } end; define macro double { double(?e:body) } => { double(?e ?e) } end;")
	twin := append(slices.Clone(m), m[0])
	for i, x := range []struct {
		m  []api.Macro
		l  []api.Frag
		at int
		e  api.Errno
	}{
		{twin, append(tooDeep, tooLong...), 0, api.ErrDeep}, {twin, tooLong, 0, api.ErrLong}, {twin, calling("unit", wide(1)...), 0, api.ErrMacro},
		{[]api.Macro{one(nil, bad())}, nil, 0, api.ErrMacro}, {manyMacros(api.MaxMacros), nil, 0, api.OK}, {manyMacros(api.MaxMacros + 1), nil, 0, api.ErrMacro},
		{m, append(wide(3), calling("unit", wide(1)...)...), 3, api.ErrMatch},
		{m, slices.Concat(calling("unit"), calling("nest", calling("unit", wide(1)...)...)), 2, api.ErrMatch},
		{grow, calling("grow"), api.MaxDeep - 1, api.ErrLarge},
		{grow, append(wide(2), calling("double", wide(1)...)...), 2, api.ErrLarge},
		{grow, calling("double"), 0, api.ErrMarks},
		{m, deep(api.MaxDeep), 0, api.OK}, {m, wide(api.MaxTokens), 0, api.OK},
	} {
		l, y, at, e := With(x.m, x.l)
		if e != x.e || at != x.at || e != api.OK && (l != nil || y != nil) {
			t.Errorf("%d: With(%.80s) = %.80s, %d, %d; expected %d, %d", i, show(x.l), show(l), at, e, x.at, x.e)
		}
	}
}

func TestExpand(t *testing.T) {
	for _, x := range []struct {
		text, want string
		at         int
		e          api.Errno
	}{
		{"", "", 0, api.OK}, {"a (b)", "a (b)", 0, api.OK},
		{"unit() " + unitText + "both unit end", "u^1 unit unit", 0, api.OK},
		{"unit() " + unitText + "unit(a)", "", 1, api.ErrMatch}, // the definitions do not count
		{unitText + unitText + "unit(a)", "", 6, api.ErrMacro},
		{loopText + "m(a)", "", 0, api.ErrMarks},
		{"define macro m { m() } => { define macro n { n() } => { } end; n() } end; m()", "define^1 <macro^1: n^1 {^1n^1 (^1)} =>^1 {^1}> ;^1 n^1 (^1)", 0, api.OK},
	} {
		l, y, at, e := Expand(frags(t, x.text))
		if e != x.e || at != x.at || show(l) != x.want || e != api.OK && y != nil {
			t.Errorf("Expand(%s) = %s, %d, %d; expected %s, %d, %d", x.text, show(l), at, e, x.want, x.at, x.e)
		}
	}
	for _, x := range []struct {
		l []api.Frag
		e api.Errno
	}{{append(deep(api.MaxDeep+1), wide(api.MaxTokens)...), api.ErrDeep}, {wide(api.MaxTokens + 1), api.ErrLong}, {wide(api.MaxTokens), api.OK}} {
		if l, y, at, e := Expand(x.l); e != x.e || at != 0 || e != api.OK && (l != nil || y != nil) {
			t.Errorf("Expand of %d fragments = %d, %d; expected %d", len(x.l), at, e, x.e)
		}
		if m, rest, at, e := Define(x.l); e != x.e || at != 0 || m != nil || e != api.OK && rest != nil {
			t.Errorf("Define of %d fragments = %d, %d; expected %d", len(x.l), at, e, x.e)
		}
	}
}

// P3.1: Replay

func TestReplay(t *testing.T) {
	m := macros(t, dText+unitText)
	l := frags(t, "a while (twice(b)) both 1 end; unit() end", "while", "both")
	want, all, _, _ := With(m, l)
	if len(all) != 4 {
		t.Fatalf("With has the expansions %s", showExpansions(all))
	}
	change := func(i int, f func(x *api.Expansion)) []api.Expansion {
		c := slices.Clone(all)
		f(&c[i])
		return c
	}
	for i := range all {
		if got, at, e := Replay(m, l, all[:i]); e != api.OK || at != 0 || Calls(m, got) < 1 {
			t.Errorf("Replay of %d expansions = %s, %d, %d", i, show(got), at, e)
		}
		for name, x := range map[string][]api.Expansion{
			"Macro":    change(i, func(x *api.Expansion) { x.Macro += "x" }),
			"Rule":     change(i, func(x *api.Expansion) { x.Rule++ }),
			"At":       change(i, func(x *api.Expansion) { x.At-- }),
			"Mark -1":  change(i, func(x *api.Expansion) { x.Mark = -1 }),
			"Binds":    change(i, func(x *api.Expansion) { x.Binds = append(slices.Clone(x.Binds), api.MacroBind{}) }),
			"left out": slices.Delete(slices.Clone(all), i, i+1),
			"twice":    slices.Insert(slices.Clone(all), i, all[i]),
		} {
			index := i
			if name == "twice" {
				index++
			}
			if i == len(all)-1 && name == "left out" {
				continue
			}
			if got, at, e := Replay(m, l, x); e != api.ErrReplay || at != index || got != nil {
				t.Errorf("Replay with another %s of %d = %s, %d, %d", name, i, show(got), at, e)
			}
		}
	}
	if got, at, e := Replay(m, l, all); e != api.OK || at != 0 || !same(got, want) {
		t.Errorf("Replay = %s, %d, %d", show(got), at, e)
	}
	if got, at, e := Replay(m, l, append(all, api.Expansion{})); e != api.ErrReplay || at != len(all) || got != nil {
		t.Errorf("Replay of one more = %s, %d, %d", show(got), at, e)
	}
	if got, at, e := Replay(m, l, nil); e != api.OK || at != 0 || !same(got, l) {
		t.Errorf("Replay of none = %s, %d, %d", show(got), at, e)
	}
}

// TestReplayBinds changes each part of what a variable is bound to.
func TestReplayBinds(t *testing.T) {
	m := macros(t, nestText)
	l := frags(t, "nest(a (b))")
	_, x, _, _ := Once(m, l, 0)
	for i, f := range []func(b *api.MacroBind){
		func(b *api.MacroBind) { b.Name = "f" },
		func(b *api.MacroBind) { b.Frags = b.Frags[:1] },
		func(b *api.MacroBind) { b.Frags[0].Tok.Text = "c" },
		func(b *api.MacroBind) { b.Frags[0].Tok.At++ },
		func(b *api.MacroBind) { b.Frags[0].Tok.Mark++ },
		func(b *api.MacroBind) { b.Frags[1].Open = "[" },
		func(b *api.MacroBind) { b.Frags[1].Tok.At++ },
		func(b *api.MacroBind) { b.Frags[1].Kids = nil },
		func(b *api.MacroBind) { b.Frags[1].Kids[0].Tok.Mark++ },
	} {
		y := copiedExpansion(x)
		f(&y.Binds[0])
		if got, at, e := Replay(m, l, []api.Expansion{y}); e != api.ErrReplay || at != 0 || got != nil {
			t.Errorf("%d: Replay with another binding = %s, %d, %d", i, show(got), at, e)
		}
	}
}

func TestReplayMarks(t *testing.T) {
	m := macros(t, unitText+nestText)
	l := frags(t, "nest(unit()) unit()")
	_, all, _, _ := With(m, l)
	for _, marks := range [][]int{{1, 2, 3}, {0, 0, 0}, {9, 9, 9}, {3, 2, 1}, {7, 0, 5000}} {
		for i := range all {
			all[i].Mark = marks[i]
		}
		want := fmt.Sprintf("(^%du^%d) u^%d", marks[0], marks[1], marks[2])
		want = strings.ReplaceAll(want, "^0", "")
		if got, at, e := Replay(m, l, all); e != api.OK || at != 0 || show(got) != want {
			t.Errorf("Replay with the marks %v = %s, %d, %d", marks, show(got), at, e)
		}
	}
	// what was inserted with one mark is bound with it
	m = macros(t, "define macro two { two() } => { nest(u) } end; "+nestText)
	l = frags(t, "two()")
	_, all, _, _ = With(m, l)
	all[0].Mark = 5
	if got, at, e := Replay(m, l, all); e != api.ErrReplay || at != 1 || got != nil {
		t.Errorf("Replay with another mark of the first one = %s, %d, %d", show(got), at, e)
	}
}

func TestReplayErrors(t *testing.T) {
	tooDeep, tooLong := deep(api.MaxDeep+1), wide(api.MaxTokens+1)
	m := macros(t, loopText+unitText)
	twin := append(slices.Clone(m), m[0])
	// the expansion that Once returns with an error cannot be made
	_, fails, _, _ := Once(m, calling("unit", wide(1)...), 3)
	large := []api.Macro{one(nil, wide(api.MaxTokens))}
	_, grows, _, _ := Once(large, append(wide(1), calling("m")...), 3)
	loops := make([]api.Expansion, api.MaxMarks+2)
	for i := range loops {
		loops[i] = api.Expansion{Macro: "m", Mark: 4, Binds: []api.MacroBind{{Name: "e"}}}
	}
	later := []api.Expansion{{Macro: "unit", Mark: 1}, fails}
	wrong := slices.Clone(loops)
	wrong[api.MaxMarks].At++
	for i, x := range []struct {
		m  []api.Macro
		l  []api.Frag
		x  []api.Expansion
		at int
		e  api.Errno
	}{
		{twin, append(tooDeep, tooLong...), make([]api.Expansion, 1), 0, api.ErrDeep}, {twin, tooLong, make([]api.Expansion, 1), 0, api.ErrLong}, {twin, nil, make([]api.Expansion, 1), 0, api.ErrMacro},
		{manyMacros(api.MaxMacros + 1), nil, nil, 0, api.ErrMacro}, {[]api.Macro{one(bad(), nil)}, nil, nil, 0, api.ErrMacro},
		{m, nil, make([]api.Expansion, 1), 0, api.ErrReplay},
		{m, calling("unit", wide(1)...), []api.Expansion{fails}, 0, api.ErrReplay},
		{m, append(calling("unit"), calling("unit", wide(1)...)...), later, 1, api.ErrReplay},
		{large, append(wide(1), calling("m")...), []api.Expansion{grows}, 0, api.ErrReplay},
		{m, calling("m"), loops[:api.MaxMarks], 0, api.OK}, {m, calling("m"), loops[:api.MaxMarks+1], 0, api.ErrLong},
		{m, calling("m"), wrong, api.MaxMarks, api.ErrReplay},
		{m, nil, nil, 0, api.OK},
	} {
		if l, at, e := Replay(x.m, x.l, x.x); e != x.e || at != x.at || e != api.OK && l != nil {
			t.Errorf("%d: Replay(%.80s) = %.80s, %d, %d; expected %d, %d", i, show(x.l), show(l), at, e, x.at, x.e)
		}
	}
}

// P3.1: Calls, Unmark

func TestCalls(t *testing.T) {
	m := macros(t, dText+unitText)
	for _, x := range []struct {
		text string
		want int
	}{
		{"", 0}, {"a (b)", 0}, {"unit", 0}, {"unit()", 1}, {"unit(a) twice()", 2}, {"(unit()) [unit()] begin unit() end", 3},
		{"f(twice(twice(x)))", 2}, {"while (unit()) both unit() end twice(unit()) end", 6}, {"unit unit() ()", 1}, {"unit()()", 1},
	} {
		if n := Calls(m, frags(t, x.text, "while", "both")); n != x.want {
			t.Errorf("Calls(%s) = %d; expected %d", x.text, n, x.want)
		}
	}
	call := calling("unit")
	for i, x := range []struct {
		m    []api.Macro
		l    []api.Frag
		want int
	}{
		{m, slices.Repeat(call, api.MaxTokens/3), api.MaxTokens / 3}, {m, append(slices.Repeat(call, api.MaxTokens/3), wide(1)...), 0},
		{m, deep(api.MaxDeep-1, call...), 1}, {m, deep(api.MaxDeep, call...), 0},
		{nil, call, 0}, {append(m, m[0]), call, 0}, {append(slices.Clone(m), one(nil, bad())), call, 0},
		{append(manyMacros(api.MaxMacros-len(m)), m...), call, 1}, {append(manyMacros(api.MaxMacros+1-len(m)), m...), call, 0},
	} {
		if n := Calls(x.m, x.l); n != x.want {
			t.Errorf("%d: Calls = %d; expected %d", i, n, x.want)
		}
	}
}

func TestUnmark(t *testing.T) {
	l := frags(t, "a (b [c]) begin end")
	want := copied(l)
	l[0].Tok.Mark, l[1].Tok.Mark, l[1].Kids[0].Tok.Mark, l[1].Kids[1].Tok.Mark, l[1].Kids[1].Kids[0].Tok.Mark, l[2].Tok.Mark = 1, 2, 3, 4, 5, 6
	if got := Unmark(l); !same(got, want) {
		t.Errorf("Unmark = %s", show(got))
	}
	for _, x := range []struct {
		l    []api.Frag
		want int
	}{{nil, 0}, {wide(api.MaxTokens + 1), api.MaxTokens + 1}, {deep(api.MaxDeep, wide(1)...), 1}, {append(wide(2), deep(api.MaxDeep+1)...), 0}} {
		if got := Unmark(x.l); len(got) != x.want {
			t.Errorf("Unmark of %d fragments has %d", len(x.l), len(got))
		}
	}
}

// TestMemory changes results, and looks whether arguments or other results change.
func TestMemory(t *testing.T) {
	text := nestText + "define macro m { m(?e:body) } => { ?e (?e) nest(?e) } end; "
	l := frags(t, text+"m(a (b))")
	given := copied(l)
	m, rest, _, _ := Define(l)
	spoil(rest)
	for _, x := range m {
		spoil(x.Rules[0].Pattern)
		spoil(x.Rules[0].Template)
	}
	call := frags(t, "m(a (b))")
	m = macros(t, text)
	list, all, _, _ := With(m, call)
	others := show(list[2:]) + showExpansions(all)
	spoil(list[:2])
	if now := show(list[2:]) + showExpansions(all); now != others {
		t.Errorf("the fragments of With share memory: %s was %s", now, others)
	}
	others = showExpansions(all[1:])
	spoil(all[0].Binds[0].Frags)
	if now := showExpansions(all[1:]); now != others {
		t.Errorf("the expansions of With share memory: %s was %s", now, others)
	}
	first, x, _, _ := Once(m, call, 0)
	again, _, _ := Replay(m, call, []api.Expansion{x})
	none, _, _, _ := Once(nil, call, 0)
	binds, _, _ := Match(frags(t, "?a:name ?b:body"), call)
	filled, _ := Fill(frags(t, "(?a) ?a"), []api.MacroBind{{Name: "a", Frags: call}}, 0)
	for _, r := range [][]api.Frag{first, again, none, x.Binds[0].Frags, binds[0].Frags, binds[1].Frags, filled, Unmark(call)} {
		spoil(r)
	}
	if show(call) != "m (a (b))" || !same(l, given) || showMacro(m[1]) != "m {?e:body} {?e (?e) nest (?e)}" {
		t.Errorf("the arguments have changed: %s, %s, %s", show(call), show(l), showMacro(m[1]))
	}
}

// spoil changes all fragments of a list.
func spoil(l []api.Frag) {
	for i := range l {
		spoil(l[i].Kids)
		l[i] = api.Frag{Tok: api.Token{Text: "spoilt"}}
	}
}

// TestOthers gives lists that are no fragments of chapter 2. What they lead to is not specified, but it ends.
func TestOthers(t *testing.T) {
	circle := make([]api.Frag, 1)
	circle[0] = api.Frag{Tok: tok("a"), Kids: circle}
	endless := make([]api.Frag, 1)
	endless[0] = api.Frag{Tok: tok("("), Open: "(", Kids: endless}
	odd := []api.Frag{{Open: "m"}, {Tok: tok("m"), Open: "("}, {Tok: tok("define")}, {Open: "macro", Kids: []api.Frag{{}}}, {Tok: api.Token{Kind: 99, Num: -1, Text: ";", At: -1, Mark: -1}}}
	m := macros(t, loopText)
	for _, l := range [][]api.Frag{circle, endless, odd} {
		Define(l)
		Expand(l)
		Check(one(l, l))
		Match(l, l)
		Match(frags(t, "?a:body"), l)
		Fill(l, nil, 1)
		Fill(frags(t, "?a"), []api.MacroBind{{Name: "a", Frags: l}}, 1)
		_, x, _, _ := Once(m, append(slices.Clone(l), calling("m", l...)...), 1)
		With(m, calling("m", l...))
		Replay(m, calling("m", l...), []api.Expansion{x})
		Replay(m, calling("m"), []api.Expansion{{Macro: "m", Binds: []api.MacroBind{{Name: "e", Frags: l}}}})
		Calls(m, l)
		Unmark(l)
	}
}
