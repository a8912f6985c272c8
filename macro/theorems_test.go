package macro

import (
	"fmt"
	"math/rand"
	"slices"
	"testing"

	"skerry/api"
	"skerry/fragment"
	"skerry/lex"
)

// numbered is a list whose tokens have the numbers from n on as At.
func numbered(l []api.Frag, n int) []api.Frag {
	c := copied(l)
	var number func(l []api.Frag)
	number = func(l []api.Frag) {
		for i := range l {
			l[i].Tok.At = n
			n++
			number(l[i].Kids)
		}
	}
	number(c)
	return c
}

// changed is a list whose tokens are changed.
func changed(l []api.Frag, change func(t api.Token) api.Token) []api.Frag {
	c := copied(l)
	for i := range c {
		c[i].Tok = change(c[i].Tok)
		c[i].Kids = changed(c[i].Kids, change)
	}
	return c
}

// chances yields so many lists with macros by chance, whose tokens have the Mark 0 and all another At.
func chances(seed int64, n int, yield func(r *maker, l []api.Frag)) {
	random := rand.New(rand.NewSource(seed))
	for range n {
		r := &maker{Rand: random}
		r.define(1 + r.Intn(4))
		yield(r, numbered(r.list(6, 3), 1))
	}
}

// expanded yields lists for which With has no error, with what it returns.
func expanded(t *testing.T, seed int64, n int, yield func(r *maker, l, result []api.Frag, all []api.Expansion)) {
	t.Helper()
	results := 0
	chances(seed, n, func(r *maker, l []api.Frag) {
		if result, all, _, e := With(r.macros, l); e == api.OK {
			yield(r, l, result, all)
			if len(all) > 1 {
				results++
			}
		}
	})
	if results < n/10 {
		t.Errorf("only %d of %d lists were expanded more than once", results, n)
	}
}

// P3.1

func TestChances(t *testing.T) {
	errors := map[api.Errno]int{}
	chances(41, 3000, func(r *maker, l []api.Frag) {
		for _, m := range r.macros {
			if e := Check(m); e != api.OK {
				t.Fatalf("Check(%s) = %d", showMacro(m), e)
			}
		}
		want, wantAll, wantAt, wantE := oracleWith(r.macros, l)
		got, all, at, e := With(r.macros, l)
		if e != wantE || at != wantAt || !same(got, want) || !sameExpansions(all, wantAll) {
			t.Fatalf("With(%s) = %s, %d, %d; expected %s, %d, %d", show(l), show(got), at, e, show(want), wantAt, wantE)
		}
		errors[e]++
		first, x, found, e := Once(r.macros, l, 3)
		want, wantX, wantFound, wantE := oracleOnce(r.macros, l, 3, 0)
		if found != wantFound || e == api.OK && (!same(first, want) || !sameExpansions([]api.Expansion{x}, []api.Expansion{wantX})) || e != wantE && e != api.ErrLarge {
			t.Fatalf("Once(%s) = %s, %v, %v, %d; expected %s", show(l), show(first), x, found, e, show(want))
		}
		if n, want := Calls(r.macros, l), oracleCalls(r.macros, l); n != want {
			t.Fatalf("Calls(%s) = %d; expected %d", show(l), n, want)
		}
	})
	if errors[api.ErrMatch] < 100 || errors[api.ErrMarks] == 0 || errors[api.ErrLarge] == 0 || errors[api.OK] < 1000 {
		t.Errorf("the errors of With occur so often: %v", errors)
	}
}

// P3.2

func TestReplayed(t *testing.T) {
	expanded(t, 42, 1500, func(r *maker, l, result []api.Frag, all []api.Expansion) {
		if again, at, e := Replay(r.macros, l, all); e != api.OK || at != 0 || !same(again, result) {
			t.Fatalf("Replay(%s) = %s, %d, %d; expected %s", show(l), show(again), at, e, show(result))
		}
		for i := range all {
			for k, x := range [][]api.Expansion{slices.Clone(all), slices.Clone(all), all[1:]} {
				if k < 2 {
					x[i].Rule += k
					x[i].At += 1 - k
				}
				if again, _, e := Replay(r.macros, l, x); e == api.OK && same(again, result) {
					t.Fatalf("Replay(%s) with a change at %d is the same", show(l), i)
				}
			}
		}
	})
}

// P3.3

func TestDone(t *testing.T) {
	expanded(t, 43, 1500, func(r *maker, l, result []api.Frag, all []api.Expansion) {
		if n := Calls(r.macros, result); n != 0 {
			t.Fatalf("With(%s) = %s with %d calls", show(l), show(result), n)
		}
		if again, more, _, e := With(r.macros, result); e != api.OK || len(more) != 0 || !same(again, result) {
			t.Fatalf("With(%s) = %s, %d", show(result), show(again), e)
		}
		if again, more, _, e := Expand(l); e != api.OK || len(more) != 0 || !same(again, l) {
			t.Fatalf("Expand(%s) = %s, %d", show(l), show(again), e)
		}
	})
}

// P3.4

func TestMarks(t *testing.T) {
	expanded(t, 44, 1500, func(r *maker, l, result []api.Frag, all []api.Expansion) {
		own := fragment.Flat(l)
		for _, u := range fragment.Flat(result) {
			if u.Mark == 0 {
				if !slices.ContainsFunc(own, func(v api.Token) bool { return u.Kind == v.Kind && u.Text == v.Text && u.At == v.At }) {
					t.Fatalf("With(%s) = %s with %v, which was not there", show(l), show(result), u)
				}
				continue
			}
			x := all[u.Mark-1]
			template := fragment.Flat(byName(r.macros)[x.Macro].Rules[x.Rule].Template)
			if !slices.ContainsFunc(template, func(v api.Token) bool { return v.Kind != api.TkPat && u.Kind == v.Kind && u.Text == v.Text }) {
				t.Fatalf("With(%s) = %s with %v, which is not of the template", show(l), show(result), u)
			}
		}
		for i, x := range all {
			if x.Mark != i+1 {
				t.Fatalf("the expansion %d has the Mark %d", i, x.Mark)
			}
		}
	})
}

// P3.5

func TestRenaming(t *testing.T) {
	const x, y = "begin-x", "other"
	rename := func(t api.Token) api.Token {
		if t.Kind == api.TkName && t.Text == x {
			t.Text = y
		}
		return t
	}
	expanded(t, 45, 1500, func(r *maker, l, result []api.Frag, all []api.Expansion) {
		l = changed(l, func(u api.Token) api.Token {
			if u.Kind == api.TkName && u.Text == "x" && u.At%2 == 0 {
				u.Text = x
			}
			return u
		})
		result, _, _, e := With(r.macros, l)
		got, _, _, again := With(r.macros, changed(l, rename))
		if e != again || !same(got, changed(result, rename)) {
			t.Fatalf("With(%s) = %s; with another name %s", show(l), show(result), show(got))
		}
	})
}

// P3.6

func TestOneAfterTheOther(t *testing.T) {
	expanded(t, 46, 1500, func(r *maker, l, result []api.Frag, all []api.Expansion) {
		if n := len(result); n > 0 && slices.ContainsFunc(r.macros, func(m api.Macro) bool { return isToken(result[n-1], api.TkName, m.Name) }) {
			return
		}
		second := numbered(r.list(6, 3), 1000)
		two, others, _, e := With(r.macros, second)
		if e != api.OK || len(all)+len(others) > api.MaxMarks {
			return
		}
		want := slices.Concat(result, changed(two, func(u api.Token) api.Token {
			if u.Mark > 0 {
				u.Mark += len(all)
			}
			return u
		}))
		if got, more, _, e := With(r.macros, slices.Concat(l, second)); e != api.OK || !same(got, want) || len(more) != len(all)+len(others) {
			t.Fatalf("With(%s %s) = %s, %d; expected %s", show(l), show(second), show(got), e, show(want))
		}
	})
}

// P3.7

func TestMatching(t *testing.T) {
	matched := 0
	r := &maker{Rand: rand.New(rand.NewSource(47))}
	for range 20000 {
		r.names = nil
		pattern := r.pattern(4, 2)
		l := numbered(r.fitting(pattern, 2), 1)
		binds, is, e := Match(pattern, l)
		want, wantIs := oracleMatch(pattern, l)
		if e != api.OK || is != wantIs || is && showBinds(binds) != showBinds(want) {
			t.Fatalf("Match(%s, %s) = %s, %v, %d; expected %s, %v", show(pattern), show(l), showBinds(binds), is, e, showBinds(want), wantIs)
		}
		if len(r.names) == 0 && is != fragment.Same(pattern, l) {
			t.Fatalf("Match(%s, %s) = %v", show(pattern), show(l), is)
		}
		if !is {
			continue
		}
		matched++
		var names []string
		at := 0
		for _, b := range binds {
			names = append(names, b.Name)
			for _, u := range fragment.Flat(b.Frags) { // in the order of the list
				if isClosing := u.Text == "end" || u.Text == ")" || u.Text == "]" || u.Text == "}"; isClosing {
					continue
				}
				if u.At <= at {
					t.Fatalf("Match(%s, %s) = %s is not in order", show(pattern), show(l), showBinds(binds))
				}
				at = u.At
			}
		}
		if !slices.Equal(names, r.names) {
			t.Fatalf("Match(%s, %s) has the names %v", show(pattern), show(l), names)
		}
		back := oracleFill(changed(pattern, func(u api.Token) api.Token {
			if name, _ := lex.Pattern(u); name != "" {
				u.Text = "?" + name
			}
			return u
		}), binds, 0)
		if !fragment.Same(back, l) {
			t.Fatalf("Match(%s, %s) = %s, with which the pattern is %s", show(pattern), show(l), showBinds(binds), show(back))
		}
	}
	if matched < 8000 {
		t.Errorf("only %d lists match", matched)
	}
}

// P3.8

func TestOrderOfMacros(t *testing.T) {
	expanded(t, 48, 1500, func(r *maker, l, result []api.Frag, all []api.Expansion) {
		further := one(nil, frags(t, "never"))
		further.Name, further.Statement = "further", r.Intn(2) == 0
		others := append(slices.Clone(r.macros), further)
		r.Shuffle(len(others), func(i, j int) { others[i], others[j] = others[j], others[i] })
		if got, more, _, e := With(others, l); e != api.OK || !same(got, result) || !sameExpansions(more, all) {
			t.Fatalf("With(%s) = %s; with other macros %s, %d", show(l), show(result), show(got), e)
		}
	})
}

// P3.9

func TestReadGroups(t *testing.T) {
	r := rand.New(rand.NewSource(49))
	groups := 0
	for range 2000 {
		text, names := "", map[string]bool{}
		for i := range r.Intn(4) {
			name := fmt.Sprintf("w%d", i)
			if names[name] = r.Intn(2) == 0; names[name] {
				text += fmt.Sprintf("define macro %s { %s (a) ?b:body end } => { ?b } end macro %s; ", name, name, name)
				continue
			}
			text += fmt.Sprintf("define macro %s { %s(?b:body) } => { ?b } end; ", name, name)
		}
		calls := 0
		for name, statement := range names {
			if statement {
				text += fmt.Sprintf("begin %s (a) x %s; y end end; ", name, name+"x")
				calls++
			} else {
				text += fmt.Sprintf("%s(a, %sx) ", name, name)
				calls++
			}
		}
		l, at, e := Read(toks(t, text))
		if e != api.OK {
			t.Fatalf("Read(%s) = %d, %d", text, at, e)
		}
		m, rest, at, e := Define(l)
		if e != api.OK || len(m) != len(names) || Calls(m, rest) != calls {
			t.Fatalf("Define(%s) = %d macros, %s, %d, %d; expected %d calls", text, len(m), show(rest), at, e, calls)
		}
		for _, x := range m {
			if x.Statement != names[x.Name] {
				t.Fatalf("Define(%s) has the macro %s", text, showMacro(x))
			}
			groups++
		}
		var words []string
		for _, x := range m {
			if x.Statement {
				words = append(words, x.Name)
			}
		}
		if !slices.Equal(Words(toks(t, text)), words) {
			t.Fatalf("Words(%s) = %v", text, Words(toks(t, text)))
		}
	}
	if groups < 1000 {
		t.Errorf("only %d macros", groups)
	}
}

func TestMarksOfTheList(t *testing.T) {
	expanded(t, 50, 1500, func(r *maker, l, result []api.Frag, all []api.Expansion) {
		marked := changed(l, func(u api.Token) api.Token {
			u.Mark = r.Intn(5)
			return u
		})
		got, more, _, e := With(r.macros, marked)
		if e != api.OK || len(more) != len(all) || !same(Unmark(got), Unmark(result)) {
			t.Fatalf("With(%s) = %s, %d; expected %s but for marks", show(marked), show(got), e, show(result))
		}
		for _, u := range fragment.Flat(Unmark(got)) {
			if u.Mark != 0 {
				t.Fatalf("Unmark(%s) has marks", show(got))
			}
		}
	})
}
