package fragment

import (
	"math/rand"
	"slices"
	"strings"
	"testing"

	"skerry/api"
)

var wordLists = [][]string{nil, {"while"}, {"while", "a"}, {"m", "a", "while"}}

// readable yields so many lists of fragments that are readable for the words with them.
func readable(seed int64, n int, yield func(r *rand.Rand, l []api.Token, f []api.Frag, words []string)) {
	r := rand.New(rand.NewSource(seed))
	for n > 0 {
		l, words := tokensByChance(r, 16), wordLists[r.Intn(len(wordLists))]
		if f, _, e := Read(l, words); e == api.OK {
			yield(r, l, f, words)
			n--
		}
	}
}

// P2.2

func TestBack(t *testing.T) {
	dropped := 0
	readable(31, 8000, func(r *rand.Rand, l []api.Token, f []api.Frag, words []string) {
		if e := Check(f, words); e != api.OK {
			t.Fatalf("Check(%s) = %d", show(f), e)
		}
		flat := Flat(f)
		if again, _, e := Read(flat, words); e != api.OK || !identicalLists(again, f) {
			t.Fatalf("Read of Flat of %s = %s, %d", show(f), show(again), e)
		}
		// all tokens but closing ones are those that were read, in order; between them only such were dropped as stand behind an end
		rest := l
		for _, u := range flat {
			closes := slices.Contains([]string{")", "]", "}", "end"}, u.Text)
			for len(rest) > 0 && rest[0].Text != u.Text {
				rest = rest[1:]
				dropped++
			}
			if len(rest) == 0 || !closes && rest[0] != u || closes && (rest[0].Kind != u.Kind || u.Num != 0) {
				t.Fatalf("the tokens of %s are not those of %v", show(f), l)
			}
			rest = rest[1:]
		}
		dropped += len(rest)
	})
	if dropped < 500 {
		t.Errorf("only %d tokens were dropped", dropped)
	}
}

// TestDroppedTokens counts the tokens that Flat lacks.
func TestDroppedTokens(t *testing.T) {
	for _, x := range []struct {
		text string
		want int
	}{{"method m ( ) end method m ;", 2}, {"method m ( ) end m ;", 1}, {"if method m ( ) end method end", 1}, {"method m ( ) end m m", 0}, {"begin m end m", 0}} {
		l := toks(x.text)
		f, _, _ := Read(l, nil)
		if n := len(l) - Size(f); n != x.want {
			t.Errorf("Read(%s) drops %d tokens; expected %d", x.text, n, x.want)
		}
	}
}

// P2.3

// span is where a group begins and ends among the tokens of its fragments, and how many groups are around it.
type span struct {
	begin, end, around int
	sort               string
}

func sortOf(open string) string {
	if strings.Contains("([{", open) {
		return open
	}
	return "word"
}

func spans(l []api.Frag, at, around int) (all []span, behind int) {
	for _, f := range l {
		at++
		if f.Open == "" {
			continue
		}
		inner, end := spans(f.Kids, at, around+1)
		all = append(append(all, span{at - 1, end, around, sortOf(f.Open)}), inner...)
		at = end + 1
	}
	return all, at
}

// sorts are, for each token, the sort of groups that it opens (1) or closes (-1).
func sorts(l []api.Token, words []string) ([]string, []int) {
	names := make([]string, len(l))
	turns := make([]int, len(l))
	for i, t := range l {
		switch {
		case strings.Contains("([{", t.Text):
			names[i], turns[i] = t.Text, 1
		case strings.Contains(")]}", t.Text):
			names[i], turns[i] = map[string]string{")": "(", "]": "[", "}": "{"}[t.Text], -1
		case t.Text == "end":
			names[i], turns[i] = "word", -1
		case !slices.Contains(Words(), t.Text) && !slices.Contains(words, t.Text):
		case t.Text == "class" && i+1 < len(l) && l[i+1].Text == "slot":
		case i > 0 && turns[i-1] == 1 && l[i-1].Text == "macro":
		default:
			names[i], turns[i] = "word", 1
		}
	}
	return names, turns
}

func TestMatched(t *testing.T) {
	readable(32, 4000, func(r *rand.Rand, l []api.Token, f []api.Frag, words []string) {
		flat := Flat(f)
		names, turns := sorts(flat, words)
		all, n := spans(f, 0, 0)
		if n != len(flat) {
			t.Fatalf("%s has %d tokens, not %d", show(f), n, len(flat))
		}
		deepest := 0
		for _, s := range all {
			open, end := 0, s.begin
			for ; ; end++ {
				if names[end] == s.sort {
					open += turns[end]
				}
				if open == 0 {
					break
				}
			}
			around := 0
			for i := range s.begin {
				around += turns[i]
			}
			if end != s.end || around != s.around {
				t.Fatalf("the group at %d of %s ends at %d, not %d, with %d around it, not %d", s.begin, show(f), s.end, end, s.around, around)
			}
			deepest = max(deepest, around+1)
		}
		if Depth(f) != deepest {
			t.Fatalf("Depth(%s) = %d; expected %d", show(f), Depth(f), deepest)
		}
	})
}

// P2.4

func TestPrefix(t *testing.T) {
	r := rand.New(rand.NewSource(33))
	opened := slices.Repeat([]api.Token{tok("(")}, api.MaxDeep)
	tried := map[api.Errno]int{}
	for range 30000 {
		l, words := tokensByChance(r, 16), wordLists[r.Intn(len(wordLists))]
		if r.Intn(10) == 0 {
			l = slices.Concat(opened[:api.MaxDeep-r.Intn(2)], l)
		}
		_, at, e := Read(l, words)
		if e != api.ErrToken && e != api.ErrDeep && e != api.ErrStray || at >= len(l)-2 {
			continue
		}
		tried[e]++
		m := slices.Concat(l[:at+3], tokensByChance(r, 16))
		if f, again, other := Read(m, words); again != at || other != e || f != nil {
			t.Fatalf("Read(%v) = %d, %d; with other tokens behind it %d, %d", l, at, e, again, other)
		}
		if tried[e]%50 > 0 {
			continue
		}
		long := slices.Concat(l[:at+3], make([]api.Token, api.MaxTokens-at-3))
		if _, again, other := Read(long, words); again != at || other != e {
			t.Fatalf("Read(%v) = %d, %d; with many tokens behind it %d, %d", l, at, e, again, other)
		}
		if _, again, other := Read(append(long, api.Token{}), words); again != 0 || other != api.ErrLong {
			t.Fatalf("Read of too many tokens = %d, %d", again, other)
		}
	}
	for _, e := range []api.Errno{api.ErrToken, api.ErrDeep, api.ErrStray} {
		if tried[e] < 300 {
			t.Errorf("only %d texts with the error %d", tried[e], e)
		}
	}
}

// P2.5

func TestParts(t *testing.T) {
	var last []api.Frag
	whole := 0
	readable(34, 8000, func(r *rand.Rand, l []api.Token, f []api.Frag, words []string) {
		words = wordLists[0]
		if Check(f, words) != api.OK || Check(last, words) != api.OK {
			last = f
			return
		}
		named := false
		if n := len(last); n > 0 {
			g := last[n-1]
			named = slices.Contains([]string{"class", "method", "macro"}, g.Open) || g.Open == "" && g.Tok.Text == "class"
		}
		e := Check(slices.Concat(last, f), words)
		if !named && e != api.OK {
			t.Fatalf("%s behind %s is not readable", show(f), show(last))
		}
		if e == api.OK {
			whole++
		}
		last = f
	})
	if whole < 1000 {
		t.Errorf("only %d lists", whole)
	}
	// a list that ends with a group whose name may be repeated
	for _, open := range []string{"class", "method", "macro"} {
		if l := read(t, open+" m end"); Check(append(l, read(t, "m")...), nil) != api.ErrFrag {
			t.Errorf("a name behind %s is readable", open)
		}
	}
}

func TestKids(t *testing.T) {
	var check func(l []api.Frag, words []string)
	check = func(l []api.Frag, words []string) {
		for _, f := range l {
			if f.Open == "" {
				continue
			}
			if e := Check(f.Kids, words); e != api.OK && f.Open != "macro" {
				t.Fatalf("Check of the kids of %s = %d", show([]api.Frag{f}), e)
			}
			check(f.Kids, words)
		}
	}
	readable(35, 4000, func(r *rand.Rand, l []api.Token, f []api.Frag, words []string) { check(f, words) })
	// those of macro need not be
	if l := read(t, "macro if end"); Check(l[0].Kids, nil) != api.ErrFrag {
		t.Error("the name of a macro is readable")
	}
}

// P2.6

func TestPieces(t *testing.T) {
	readable(36, 4000, func(r *rand.Rand, l []api.Token, f []api.Frag, words []string) {
		sign := []string{",", ";", ".", "(", "a", ""}[r.Intn(6)]
		pieces := Split(f, sign)
		want := tidy(f)
		signs := 0
		for i := range want {
			if want[i].Open == "" && want[i].Tok.Kind == api.TkSign && want[i].Tok.Text == sign {
				want[i].Tok.At, want[i].Tok.Mark = 0, 0
				signs++
			}
		}
		if got := Join(pieces, sign); len(pieces) != signs+1 || !identicalLists(got, want) || !Same(got, f) {
			t.Fatalf("Join of Split(%s, %s) = %s", show(f), sign, show(got))
		}
		for _, p := range pieces {
			if len(Split(p, sign)) != 1 {
				t.Fatalf("a piece of Split(%s, %s) is %s", show(f), sign, show(p))
			}
		}
		// a path by chance
		var path []int
		for list := f; len(list) > 0 && (len(path) == 0 || r.Intn(3) > 0); {
			i := r.Intn(len(list))
			path = append(path, i)
			list = list[i].Kids
		}
		by := []api.Frag{{Tok: tok("("), Open: "(", Kids: f}}
		if len(path) == 0 {
			return
		}
		m, e := Put(f, path, by)
		if got, other := At(m, path); e != api.OK || other != api.OK || !identicalLists([]api.Frag{got}, by) {
			t.Fatalf("At of Put(%s, %v) = %v, %d, %d", show(f), path, got, e, other)
		}
		old, _ := At(f, path)
		if back, e := Put(m, path, []api.Frag{old}); e != api.OK || !identicalLists(back, f) {
			t.Fatalf("Put of what was at %v of %s = %s, %d", path, show(f), show(back), e)
		}
	})
}

// P2.7

func TestMarks(t *testing.T) {
	r := rand.New(rand.NewSource(37))
	for range 8000 {
		l, words := tokensByChance(r, 16), wordLists[r.Intn(len(wordLists))]
		m := slices.Clone(l)
		for i := range m {
			if m[i].At >= 0 {
				m[i].At = r.Intn(1000)
			}
			if m[i].Mark >= 0 {
				m[i].Mark = r.Intn(1000)
			}
		}
		f, at, e := Read(l, words)
		g, again, other := Read(m, words)
		if at != again || e != other || !Same(f, g) {
			t.Fatalf("Read(%v) = %s, %d, %d; with other Marks %s, %d, %d", l, show(f), at, e, show(g), again, other)
		}
	}
}

// P2.8

func TestMoreWords(t *testing.T) {
	readable(38, 4000, func(r *rand.Rand, l []api.Token, f []api.Frag, words []string) {
		for _, w := range []string{"define", "until", "b", "while", "a"} {
			used := slices.Contains(words, w)
			for _, u := range Flat(f) {
				used = used || u.Text == w
			}
			if !used && Check(f, append(slices.Clone(words), w)) != api.OK {
				t.Fatalf("%s is not readable with the word %s as well", show(f), w)
			}
		}
	})
}
