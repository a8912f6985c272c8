package syntax

import (
	"fmt"
	"math"
	"slices"
	"strings"
	"testing"

	"skerry/api"
	"skerry/lex"
)

// scanned is the tokens of a text, which have to be its words with one space between two.
func scanned(t *testing.T, text string) []api.Token {
	t.Helper()
	l, _, e := lex.Scan(text)
	if e != api.OK || lex.Join(l) != text {
		t.Fatalf("Scan(%q) = %q, %d", text, lex.Join(l), e)
	}
	return l
}

// P4.1: texts are parsed as the trees that they have to be, with marks and without.
func TestTextsByChance(t *testing.T) {
	m := newMaker(1)
	right := 0
	for i := range 4000 {
		m.marked = i%2 == 0
		text, want := m.begin(1 + i%6)
		e, at, err := ParseExpr(toks(text))
		if fault := CheckExpr(want); fault != api.OK {
			if err != fault || at != len(toks(text)) {
				t.Fatalf("ParseExpr(%s) = %d at %d; expected %d", text, err, at, fault)
			}
			continue
		}
		if err != api.OK || !same(e, want) {
			t.Fatalf("ParseExpr(%s) = %s, %d at %d; expected %s", text, show(e), err, at, show(want))
		}
		if !apart(e) {
			t.Fatalf("ParseExpr(%s) has lists with the same memory", text)
		}
		right++
	}
	if right < 3500 {
		t.Errorf("only %d texts were parsed", right)
	}
}

// P4.2 and P4.6

func TestRoundTrip(t *testing.T) {
	m := newMaker(2)
	seen := map[int]int{}
	for i := range 8000 {
		e := m.expr(1 + i%7)
		if err := CheckExpr(e); err != api.OK {
			t.Fatalf("CheckExpr(%s) = %d", show(e), err)
		}
		seen[e.Kind]++
		text, err := PrintExpr(e)
		if err == api.ErrLong && measure(e) > api.MaxText {
			continue
		}
		if err != api.OK {
			t.Fatalf("PrintExpr(%s) = %d", show(e), err)
		}
		if again, at, err := ParseExpr(scanned(t, text)); err != api.OK || !same(again, e) {
			t.Fatalf("PrintExpr(%s) = %s, which is parsed as %s, %d at %d", show(e), text, show(again), err, at)
		}
	}
	if len(seen) != 15 {
		t.Errorf("the kinds are %v", seen)
	}
}

func TestRoundTripOfSources(t *testing.T) {
	m := newMaker(3)
	for i := range 3000 {
		s := m.source(1 + i%4)
		if e := Check(s); e != api.OK {
			t.Fatalf("Check(%s) = %d", showSource(s), e)
		}
		text, e := Print(s)
		if e == api.ErrLong && measureOf(s) > api.MaxText {
			continue
		}
		if e != api.OK {
			t.Fatalf("Print(%s) = %d", showSource(s), e)
		}
		again, at, e := ParseTokens(scanned(t, text))
		if e != api.OK || !same(again, s) {
			t.Fatalf("Print(%s) = %s, which is parsed as %s, %d at %d", showSource(s), text, showSource(again), e, at)
		}
		if !apart(again) {
			t.Fatalf("ParseTokens(%s) has lists with the same memory", text)
		}
	}
}

func TestRoundTripOfTypes(t *testing.T) {
	m := newMaker(4)
	for i := range 3000 {
		x := m.typ(i % 6)
		text, e := PrintType(x)
		if e != api.OK {
			t.Fatalf("PrintType(%s) = %d", showType(x), e)
		}
		if again, at, e := ParseType(scanned(t, text)); e != api.OK || !same(again, x) {
			t.Fatalf("PrintType(%s) = %s, which is parsed as %s, %d at %d", showType(x), text, showType(again), e, at)
		}
	}
}

// Arguments are not changed.
func TestArgumentsStay(t *testing.T) {
	m := newMaker(5)
	for range 500 {
		seed := m.Int63()
		s, again := newMaker(seed).source(4), newMaker(seed).source(4)
		e, again2 := newMaker(seed).expr(4), newMaker(seed).expr(4)
		Print(s)
		Check(s)
		PrintExpr(e)
		Free(e)
		Alpha(e, e)
		for _, d := range s.Defs {
			Accessors(d.Class)
		}
		if !same(s, again) || !same(e, again2) {
			t.Fatalf("%s or %s was changed", showSource(again), show(again2))
		}
		text, _ := Print(s)
		l := toks(text)
		given := slices.Clone(l)
		ParseTokens(l)
		if !slices.Equal(l, given) {
			t.Fatalf("the tokens of %s were changed", text)
		}
	}
}

// P4.7

func TestCanonical(t *testing.T) {
	m := newMaker(6)
	for i := range 1500 {
		text, _ := m.begin(1 + i%5)
		e, _, err := ParseExpr(toks(text))
		if err != api.OK {
			continue
		}
		first, err := PrintExpr(e)
		if err != api.OK {
			continue
		}
		again, _, _ := ParseExpr(scanned(t, first))
		if second, err := PrintExpr(again); err != api.OK || second != first {
			t.Fatalf("%s is printed as %s, and then as %s", text, first, second)
		}
		if inner, _, err := ParseExpr(toks("( " + text + " )")); err != api.OK || !same(inner, e) {
			t.Fatalf("( %s ) is %s; expected %s", text, show(inner), show(e))
		}
	}
	for _, text := range []string{"f # := a", "# + # * #", "# ( # , # ) . x", "if # # else # end", "~ #", "begin let x = # ; # ; # end", "method ( ) # end", "make ( # , k: # )", "block ( ) # cleanup # end", "# & # | #", "# = #"} {
		plain, inner := toks(strings.ReplaceAll(text, "#", "( a )")), toks(strings.ReplaceAll(text, "#", "( ( a ) )"))
		a, _, e := ParseExpr(plain)
		if b, _, err := ParseExpr(inner); e != api.OK || err != api.OK || !same(a, b) {
			t.Errorf("a pair of parentheses changes %s: %s, %d; %s, %d", text, show(a), e, show(b), err)
		}
	}
}

// P4.8

// globally is an expression whose free variables x are x@0.
func globally(e api.Expr, bound []string) api.Expr {
	if e.Kind == api.ExVar && !slices.Contains(bound, e.Name) {
		e.Name += "@0"
	}
	args := slices.Clone(e.Args)
	for i, a := range e.Args {
		args[i] = globally(a, append(slices.Clone(bound), scopeOf(e, i)...))
	}
	e.Args = args
	return e
}

// scopeOf is the names that the chapter says are bound in an element of Args.
func scopeOf(e api.Expr, i int) []string {
	var l []string
	switch e.Kind {
	case api.ExLet:
		if i == 1 || e.Args[0].Kind == api.ExFn && e.Args[0].Name == e.Name {
			l = append(l, e.Name)
		}
	case api.ExFn:
		if e.Name != "" {
			l = append(l, e.Name)
		}
		for _, p := range e.Params {
			l = append(l, p.Name)
		}
	case api.ExBlock:
		if i == 0 && e.Name != "" {
			l = append(l, e.Name)
		}
	}
	return l
}

func TestHygiene(t *testing.T) {
	m := newMaker(7)
	m.plain = true
	bound, tried := 0, 0
	for i := range 2400 {
		text, _ := m.begin(1 + i%6)
		l := toks(text)
		e, _, err := ParseExpr(l)
		if err != api.OK {
			continue
		}
		mark := []int{1, 2, 1000, math.MaxInt}[m.Intn(4)]
		for k := range l {
			l[k].Mark = mark
		}
		marked, at, err := ParseExpr(l)
		if want := globally(e, nil); err != api.OK || !Alpha(marked, want) || nameless(marked, nil) != nameless(want, nil) {
			t.Fatalf("%s with marks is %s, %d at %d; expected %s", text, show(marked), err, at, show(want))
		}
		tried++
		if strings.Contains(show(marked), fmt.Sprint("@", mark)) {
			bound++
		}
	}
	if tried < 2000 || bound < 400 {
		t.Errorf("of %d texts %d have bound variables", tried, bound)
	}
}

// P4.9

func TestPrefix(t *testing.T) {
	m := newMaker(8)
	words := vocabulary()
	counts := map[api.Errno]int{}
	for start, texts := range corpus {
		for range 3000 {
			l := toks(texts[m.Intn(len(texts))])
			l[m.Intn(len(l))] = words[m.Intn(len(words))]
			if m.Intn(10) == 0 {
				around := map[string]string{"expr": times(2*api.MaxDeep, "f ( "), "type": times(2*api.MaxDeep, "type-union ( "), "source": "library a ; " + times(2*api.MaxDeep, "f ( x , ")}
				l = append(toks(around[start]), l...)
			}
			at, e, _ := parsed(start, l)
			if e == api.OK || at == len(l) {
				continue
			}
			counts[e]++
			rest := append(l[:at+1:at+1], words[m.Intn(len(words))], words[m.Intn(len(words))])
			for _, tail := range [][]api.Token{l[:at+1], rest} {
				if at2, e2, _ := parsed(start, tail); at2 != at || e2 != e {
					t.Fatalf("%s: %d at %d of %q, but %d at %d of %q", start, e, at, lex.Join(l), e2, at2, lex.Join(tail))
				}
			}
		}
	}
	if counts[api.ErrParse] < 1000 || counts[api.ErrReserve] < 500 || counts[api.ErrDeep] < 10 {
		t.Errorf("the errors are %v", counts)
	}
}

// P4.10

// nameless is an expression as a text in which a variable that is bound is the number of bindings between, so that just Alpha ones have the same.
func nameless(e api.Expr, bound []string) string {
	var b strings.Builder
	name := e.Name
	switch e.Kind {
	case api.ExVar:
		for i := len(bound) - 1; i >= 0; i-- {
			if bound[i] == name {
				return fmt.Sprint("#", len(bound)-i)
			}
		}
	case api.ExLet, api.ExFn, api.ExBlock:
		name = fmt.Sprint(name != "")
	}
	fmt.Fprintf(&b, "(%d %q %d %s %q", e.Kind, name, e.Num, fmt.Sprint(e.Type), e.Keys)
	for _, p := range e.Params {
		fmt.Fprint(&b, " ", p.Type)
	}
	for i, a := range e.Args {
		b.WriteString(" " + nameless(a, append(slices.Clone(bound), scopeOf(e, i)...)))
	}
	return b.String() + ")"
}

// freeOf is what Free has to return.
func freeOf(e api.Expr, bound []string) []string {
	var l []string
	if e.Kind == api.ExVar && !slices.Contains(bound, e.Name) {
		l = append(l, e.Name)
	}
	for i, a := range e.Args {
		for _, name := range freeOf(a, append(slices.Clone(bound), scopeOf(e, i)...)) {
			if !slices.Contains(l, name) {
				l = append(l, name)
			}
		}
	}
	return l
}

// renaming is an expression in which some bound variables have other names, which begin with a prefix.
func (m *maker) renaming(e api.Expr, prefix string, names map[string]string) api.Expr {
	own := map[string]string{}
	for i := range e.Args {
		for _, name := range scopeOf(e, i) {
			own[name] = name
			if m.Intn(2) == 0 {
				own[name] = prefix + fmt.Sprint(m.Int31())
			}
		}
	}
	if e.Kind == api.ExFn && e.Name != "" { // it is bound by the let
		own[e.Name] = names[e.Name]
		if slices.ContainsFunc(e.Params, func(p api.Param) bool { return p.Name == e.Name }) {
			own[e.Name] = e.Name
		}
	}
	args := slices.Clone(e.Args)
	for i, a := range args {
		inner := map[string]string{}
		for k, v := range names {
			inner[k] = v
		}
		for _, name := range scopeOf(e, i) {
			inner[name] = own[name]
		}
		args[i] = m.renaming(a, prefix, inner)
	}
	e.Args = args
	params := slices.Clone(e.Params)
	for i, p := range params {
		params[i].Name = own[p.Name]
	}
	e.Params = params
	switch e.Kind {
	case api.ExVar, api.ExFn:
		if new, ok := names[e.Name]; ok {
			e.Name = new
		}
	case api.ExLet, api.ExBlock:
		if e.Name != "" && e.Name != "%|" {
			e.Name = own[e.Name]
		}
	}
	return e
}

func TestRenaming(t *testing.T) {
	m := newMaker(9)
	changed := 0
	for i := range 4000 {
		e := m.expr(1 + i%6)
		if strings.Contains(show(e), "%|") {
			continue // it is no name for which another one can stand
		}
		a, b := m.renaming(e, "p", nil), m.renaming(e, "q", nil)
		if CheckExpr(a) != api.OK || nameless(a, nil) != nameless(e, nil) {
			t.Fatalf("%s was renamed to %s", show(e), show(a))
		}
		if !Alpha(e, e) || !Alpha(e, a) || !Alpha(a, e) || !Alpha(a, b) || !Alpha(b, a) {
			t.Fatalf("%s, %s and %s are not Alpha", show(e), show(a), show(b))
		}
		if free := Free(e); !slices.Equal(free, Free(a)) || !slices.Equal(free, Free(b)) {
			t.Fatalf("Free of %s, %s and %s is not the same", show(e), show(a), show(b))
		}
		if !same(e, a) {
			changed++
		}
	}
	if changed < 1000 {
		t.Errorf("only %d were renamed", changed)
	}
}

// Alpha and Free of trees by chance, many of which differ in a single variable.
func TestAlphaByChance(t *testing.T) {
	m := newMaker(10)
	counts := map[bool]int{}
	for i := range 8000 {
		e := m.expr(1 + i%5)
		if got := Free(e); !slices.Equal(got, freeOf(e, nil)) {
			t.Fatalf("Free(%s) = %q; expected %q", show(e), got, freeOf(e, nil))
		}
		a := m.altered(e)
		if CheckExpr(a) != api.OK {
			continue
		}
		want := nameless(e, nil) == nameless(a, nil)
		if Alpha(e, a) != want || Alpha(a, e) != want {
			t.Fatalf("Alpha(%s, %s) is not %v", show(e), show(a), want)
		}
		if want && !slices.Equal(Free(e), Free(a)) {
			t.Fatalf("Free of %s and %s is not the same", show(e), show(a))
		}
		if !same(e, a) {
			counts[want]++
		}
	}
	if counts[true] < 100 || counts[false] < 1000 {
		t.Errorf("the results are %v", counts)
	}
}

// altered is an expression in which some names are others.
func (m *maker) altered(e api.Expr) api.Expr {
	if e.Name != "" && e.Kind != api.ExPrim && m.Intn(4) == 0 {
		e.Name = m.pick("x", "y", "z", "f")
	}
	e.Params = slices.Clone(e.Params)
	for i := range e.Params {
		if m.Intn(4) == 0 {
			e.Params[i].Name = m.pick("x", "y", "z", "f")
		}
	}
	e.Args = mapped(e.Args, m.altered)
	if e.Kind == api.ExLet && e.Args[0].Kind == api.ExFn && e.Args[0].Name != "" {
		e.Args[0].Name = e.Name
	}
	return e
}

// P4.11

func TestJoined(t *testing.T) {
	m := newMaker(11)
	for i := range 1000 {
		var parts [2][]string
		var both []api.Expr
		for k := range parts {
			for range 1 + m.Intn(3) {
				text, e := m.begin(1 + i%4)
				parts[k] = append(parts[k], text)
				both = append(both, e)
			}
		}
		text := "begin " + strings.Join(parts[0], " ; ") + " ; " + strings.Join(parts[1], " ; ") + " end"
		want := node(api.ExSeq, both...)
		if CheckExpr(want) != api.OK {
			continue
		}
		if e, at, err := ParseExpr(toks(text)); err != api.OK || !same(e, want) {
			t.Fatalf("ParseExpr(%s) = %s, %d at %d", text, show(e), err, at)
		}
	}
}
