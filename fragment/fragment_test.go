package fragment

import (
	"math/rand"
	"slices"
	"strconv"
	"strings"
	"testing"

	"skerry/api"
	"skerry/lex"
)

// read is the list of fragments of a text that has one.
func read(t *testing.T, text string, words ...string) []api.Frag {
	t.Helper()
	l, at, e := Read(toks(text), words)
	if e != api.OK {
		t.Fatalf("Read(%s) = %d, %d", text, at, e)
	}
	return l
}

// deep are n groups within each other, with a token in the innermost one.
func deep(n int, open string) []api.Frag {
	l := []api.Frag{{Tok: tok("x")}}
	for range n {
		l = []api.Frag{{Tok: tok(open), Open: open, Kids: l}}
	}
	return l
}

// within are n groups within each other, with a list in the innermost one.
func within(n int, l []api.Frag) []api.Frag {
	for range n {
		l = []api.Frag{{Tok: tok("("), Open: "(", Kids: l}}
	}
	return l
}

// wide is a list of n tokens.
func wide(n int) []api.Frag {
	l := make([]api.Frag, n)
	for i := range l {
		l[i].Tok = tok("x")
	}
	return l
}

func numbered(n int) []string {
	l := make([]string, n)
	for i := range l {
		l[i] = "w" + strconv.Itoa(i)
	}
	return l
}

// P2.1

func TestWords(t *testing.T) {
	l := Words()
	if !slices.Equal(l, []string{"begin", "if", "block", "method", "class", "macro"}) {
		t.Errorf("Words() = %v", l)
	}
	l[0] = "x"
	if Words()[0] != "begin" {
		t.Error("two results of Words share memory")
	}
}

func TestRead(t *testing.T) {
	for _, x := range []struct{ text, words, want string }{
		{"", "", ""},
		{"f ( x , [ 1 ] )", "", "f (x , [1])"},
		{"( ) [ ] { } begin end if end block end", "", "() [] {} <begin:> <if:> <block:>"},
		{"( [ { begin if block method class macro x end end end end end end } ] )", "", "([{<begin:<if:<block:<method:<class:<macro:x>>>>>>}])"},
		{"begin: slot ?begin begin@l #t 7 => ; , . while", "", "begin: slot ?begin begin@l #t 7 => ; , . while"},
		// words that are given
		{"while ( a ) b end", "while", "<while:(a) b>"},
		{"while a until b end end", "until while", "<while:a <until:b>>"},
		// class ahead of slot
		{"class slot x", "", "class slot x"},
		{"class slot x ; class <a> ( ) end", "", "class slot x ; <class:<a> ()>"},
		{"class ; slot end", "", "<class:; slot>"},
		{"class slot: x end", "", "<class:slot: x>"},
		{"method slot end", "", "<method:slot>"},
		{"class slots end", "", "<class:slots>"},
		{"class class slot x end class", "", "<class:class slot x>"},
		// names directly behind macro
		{"define macro while { x } end", "while", "define <macro:while {x}>"},
		{"macro macro macro end end", "", "<macro:macro <macro:>>"},
		{"macro begin if end end", "", "<macro:begin <if:>>"},
		{"macro class slot end", "", "<macro:class slot>"},
		{"macro ( if end ) end", "", "<macro:(<if:>)>"},
		{"macro ; if end end", "", "<macro:; <if:>>"},
		{"macro end", "", "<macro:>"},
		{"macro m method end end", "", "<macro:m <method:>>"},
		{"macro: if end", "", "macro: <if:>"},
		// what is dropped behind an end
		{"define method area ( s ) s end method area ;", "", "define <method:area (s) s> ;"},
		{"method m end method ;", "", "<method:m> ;"},
		{"method m end method ,", "", "<method:m> ,"},
		{"( method m end method )", "", "(<method:m>)"},
		{"[ method m end method ]", "", "[<method:m>]"},
		{"{ method m end method }", "", "{<method:m>}"},
		{"if method m end method end", "", "<if:<method:m>>"},
		{"method m end method", "", "<method:m>"},
		{"method m end m ;", "", "<method:m> ;"},
		{"( method m end m )", "", "(<method:m>)"},
		{"if method m end m end", "", "<if:<method:m>>"},
		{"method m end m", "", "<method:m>"},
		{"method m ( ) 1 end method m", "", "<method:m () 1>"},
		{"class m end class m ;", "", "<class:m> ;"},
		{"macro m end macro m ;", "", "<macro:m> ;"},
		{"macro while { x } end while", "while", "<macro:while {x}>"},
		{"macro while { x } end macro while ;", "while", "<macro:while {x}> ;"},
		{"macro macro end macro macro", "", "<macro:macro>"},
		{"macro macro end macro", "", "<macro:macro>"},
		{"class class slot end class class ;", "", "<class:class slot> ;"},
		{"method end method", "", "<method:>"},
		{"method m@l end m@l", "", "<method:m@l>"},
		{"method m end end", "", "?"},
		// nothing is dropped
		{"method m ( ) 1 end m m", "", "<method:m () 1> m m"},
		{"method m end m method ;", "", "?"},
		{"method m end m . x", "", "<method:m> m . x"},
		{"method m end m ( x )", "", "<method:m> m (x)"},
		{"method m end n ;", "", "<method:m> n ;"},
		{"method m end class m end", "", "<method:m> <class:m>"},
		{"method m end method m x end", "", "<method:m> <method:m x>"},
		{"method m end method m m end", "", "<method:m> <method:m m>"},
		{"method 1 end 1 ;", "", "<method:1> 1 ;"},
		{"method m: end m: ;", "", "<method:m:> m: ;"},
		{"method ?m end ?m ;", "", "<method:?m> ?m ;"},
		{"method ( ) end ( ) ;", "", "<method:()> () ;"},
		{"method begin end end begin ; end", "", "<method:<begin:>> <begin:;>"},
		{"method a m end m ;", "", "<method:a m> m ;"},
		{"begin m end m ;", "", "<begin:m> m ;"},
		{"if m end if m ; end", "", "<if:m> <if:m ;>"},
		{"block m end m", "", "<block:m> m"},
		{"while m end while m ; end", "while", "<while:m> <while:m ;>"},
		{"( m ) m ;", "", "(m) m ;"},
		{"class slot end", "", "?"},
	} {
		l, at, e := Read(toks(x.text), strings.Fields(x.words))
		if x.want == "?" {
			if e == api.OK || l != nil {
				t.Errorf("Read(%s) = %s; expected an error", x.text, show(l))
			}
			continue
		}
		if e != api.OK || at != 0 || show(l) != x.want {
			t.Errorf("Read(%s) = %s, %d, %d; expected %s", x.text, show(l), at, e, x.want)
		}
	}
}

func TestReadErrors(t *testing.T) {
	for _, x := range []struct {
		text, words string
		at          int
		e           api.Errno
	}{
		{"begin ( end )", "", 2, api.ErrStray},
		{"if ( a ) b", "", 0, api.ErrOpen},
		{"while ( a ) b end", "", 5, api.ErrStray},
		{"( [ a )", "", 3, api.ErrStray},
		{"( ( )", "", 0, api.ErrOpen},
		{"( ( ) begin ; begin end", "", 3, api.ErrOpen},
		{"a class slot end", "", 3, api.ErrStray},
		{"method m end m method ;", "", 4, api.ErrOpen},
		{"method m end method m end end", "", 5, api.ErrStray},
		{"begin method m end method m end end", "", 7, api.ErrStray},
		{"macro", "", 0, api.ErrOpen},
		{"class class slot", "", 0, api.ErrOpen},
		// a closing token of any sort where no group is open, or one of another sort
		{")", "", 0, api.ErrStray}, {"]", "", 0, api.ErrStray}, {"}", "", 0, api.ErrStray}, {"end", "", 0, api.ErrStray}, {"a ( ) )", "", 3, api.ErrStray},
		{"( ]", "", 1, api.ErrStray}, {"( }", "", 1, api.ErrStray}, {"( end", "", 1, api.ErrStray},
		{"[ )", "", 1, api.ErrStray}, {"[ }", "", 1, api.ErrStray}, {"[ end", "", 1, api.ErrStray},
		{"{ )", "", 1, api.ErrStray}, {"{ ]", "", 1, api.ErrStray}, {"{ end", "", 1, api.ErrStray},
		{"if )", "", 1, api.ErrStray}, {"if ]", "", 1, api.ErrStray}, {"if }", "", 1, api.ErrStray}, {"while )", "while", 1, api.ErrStray}, {"macro )", "", 1, api.ErrStray},
		// words that are not right come first
		{"end", "end", 0, api.ErrArg}, {"end", "slot", 0, api.ErrArg}, {"end", "a b a", 0, api.ErrArg}, {"end", "a@b", 0, api.ErrArg}, {"end", "1", 0, api.ErrArg},
		{"end", "a:", 0, api.ErrArg}, {"end", "(", 0, api.ErrArg}, {"end", "?a", 0, api.ErrArg}, {"end", "Ab", 0, api.ErrArg},
		{"end", "begin", 0, api.ErrArg}, {"end", "if", 0, api.ErrArg}, {"end", "block", 0, api.ErrArg}, {"end", "method", 0, api.ErrArg}, {"end", "class", 0, api.ErrArg}, {"end", "macro", 0, api.ErrArg},
		{"a", strings.Repeat("w", api.MaxName), 0, api.OK}, {"a", strings.Repeat("w", api.MaxName+1), 0, api.ErrArg},
		{"a", strings.Join(numbered(api.MaxWords), " "), 0, api.OK}, {"a", strings.Join(numbered(api.MaxWords+1), " "), 0, api.ErrArg},
	} {
		l, at, e := Read(toks(x.text), strings.Fields(x.words))
		if at != x.at || e != x.e || e != api.OK && l != nil {
			t.Errorf("Read(%s, %s) = %s, %d, %d; expected %d, %d", x.text, x.words, show(l), at, e, x.at, x.e)
		}
	}
	if _, at, e := Read(toks("a"), []string{""}); at != 0 || e != api.ErrArg {
		t.Errorf("Read with an empty word = %d, %d", at, e)
	}
	if _, at, e := Read(toks("a"), []string{"a b"}); at != 0 || e != api.ErrArg {
		t.Errorf("Read with two words in one = %d, %d", at, e)
	}
}

// TestReadInvalid puts tokens that are not valid in the place of each token of texts, also of those that are dropped.
func TestReadInvalid(t *testing.T) {
	bad := []api.Token{
		{}, {Kind: api.TkName}, {Kind: api.TkName, Text: "A"}, {Kind: api.TkName, Text: "a", Num: 1}, {Kind: api.TkName, Text: "("}, {Kind: api.TkSign, Text: "end"}, {Kind: api.TkSign, Text: "if"},
		{Kind: api.TkName, Text: "a", At: -1}, {Kind: api.TkName, Text: "end", Mark: -1}, {Kind: api.TkSign, Text: ")", At: -1}, {Kind: api.TkNum, Text: "7", Num: 8}, {Kind: api.PcBlank, Text: " "}, {Kind: api.TkSign, Text: "(", Num: 1},
	}
	for _, text := range []string{"a", "define method m ( x ) end method m ; a", "macro while end macro while ; end end", "class slot ; begin ) end", "class x slot x end class ("} {
		l := toks(text)
		for i := range l {
			for _, b := range bad {
				m := slices.Clone(l)
				m[i] = b
				first, e := i, api.ErrToken
				if _, at, other := oracleRead(m, nil); at < i {
					first, e = at, other
				}
				if f, at, got := Read(m, nil); f != nil || at != first || got != e {
					t.Errorf("Read(%s with %v at %d) = %d, %d; expected %d, %d", text, b, i, at, got, first, e)
				}
			}
		}
	}
}

func TestReadLimits(t *testing.T) {
	x := oracleFlat(wide(api.MaxTokens))
	if l, _, e := Read(x, nil); e != api.OK || len(l) != api.MaxTokens {
		t.Errorf("Read of %d tokens = %d", len(x), e)
	}
	x = append(x, tok(")"))
	x[0] = api.Token{}
	if l, at, e := Read(x, nil); e != api.ErrLong || at != 0 || l != nil {
		t.Errorf("Read of %d tokens = %d, %d", len(x), at, e)
	}
	if _, _, e := Read(x, []string{"end"}); e != api.ErrArg {
		t.Errorf("Read of %d tokens with a word that is not right = %d", len(x), e)
	}
	for _, open := range []string{"(", "[", "{", "begin", "while"} {
		l := oracleFlat(deep(api.MaxDeep, open))
		f, at, e := Read(l, []string{"while"})
		if e != api.OK || at != 0 || Depth(f) != api.MaxDeep {
			t.Errorf("Read of %d groups %s = %d, %d", api.MaxDeep, open, at, e)
		}
		l = oracleFlat(append(deep(2, "("), deep(api.MaxDeep+1, open)...))
		if f, at, e = Read(l, []string{"while"}); e != api.ErrDeep || at != 5+api.MaxDeep || f != nil {
			t.Errorf("Read of %d groups %s = %d, %d", api.MaxDeep+1, open, at, e)
		}
	}
	// in the innermost group, names that open no group are no deeper than others
	for _, x := range []struct {
		end string
		e   api.Errno
	}{{"class slot", api.OK}, {"class class slot", api.ErrDeep}, {"macro macro", api.ErrDeep}, {"]", api.ErrStray}, {"1 ; end", api.ErrStray}} {
		l := append(oracleFlat(deep(api.MaxDeep, "("))[:api.MaxDeep], toks(x.end)...)
		l = append(l, oracleFlat(deep(api.MaxDeep, "("))[api.MaxDeep+1:]...)
		if _, _, e := Read(l, nil); e != x.e {
			t.Errorf("Read of %d groups with %s = %d; expected %d", api.MaxDeep, x.end, e, x.e)
		}
	}
	l := append(oracleFlat(deep(api.MaxDeep-1, "("))[:api.MaxDeep-1], toks("macro begin end")...)
	l = append(l, oracleFlat(deep(api.MaxDeep-1, "("))[api.MaxDeep:]...)
	if _, at, e := Read(l, nil); e != api.OK {
		t.Errorf("Read of a name behind macro in the innermost group = %d, %d", at, e)
	}
}

func TestReadByChance(t *testing.T) {
	r := rand.New(rand.NewSource(21))
	seen := map[api.Errno]int{}
	for range 30000 {
		l := tokensByChance(r, 16)
		words := []string{"while", "a", "m"}[:r.Intn(4)]
		before := slices.Clone(l)
		f, at, e := Read(l, words)
		want, wantAt, wantE := oracleRead(l, words)
		if at != wantAt || e != wantE || !identicalLists(f, want) {
			t.Fatalf("Read(%s, %v) = %s, %d, %d; expected %s, %d, %d", lex.Join(l), words, show(f), at, e, show(want), wantAt, wantE)
		}
		if !slices.Equal(l, before) {
			t.Fatalf("Read changed its argument")
		}
		seen[e]++
	}
	for _, e := range []api.Errno{api.OK, api.ErrToken, api.ErrStray, api.ErrOpen} {
		if seen[e] < 300 {
			t.Errorf("only %d texts with the result %d", seen[e], e)
		}
	}
}

func TestFlat(t *testing.T) {
	l := []api.Frag{
		{Tok: api.Token{Kind: api.TkSign, Text: "(", At: 7, Mark: 2}, Open: "("},
		{Tok: api.Token{Kind: api.TkSign, Text: "[", At: 8, Mark: 3}, Open: "[", Kids: []api.Frag{}},
		{Tok: api.Token{Kind: api.TkSign, Text: "{", At: 9, Mark: 4}, Open: "{", Kids: []api.Frag{{Tok: tok("7")}}},
		{Tok: api.Token{Kind: api.TkName, Text: "if", At: 10, Mark: 5}, Open: "if"},
		// fragments that no Read returns
		{Tok: api.Token{Kind: 77, Num: 3, Text: "no", At: -4, Mark: -5}, Open: "word"},
		{Tok: tok("a"), Kids: []api.Frag{{Tok: tok("b")}}},
	}
	want := []api.Token{
		{Kind: api.TkSign, Text: "(", At: 7, Mark: 2}, {Kind: api.TkSign, Text: ")", At: 7, Mark: 2},
		{Kind: api.TkSign, Text: "[", At: 8, Mark: 3}, {Kind: api.TkSign, Text: "]", At: 8, Mark: 3},
		{Kind: api.TkSign, Text: "{", At: 9, Mark: 4}, {Kind: api.TkNum, Text: "7", Num: 7}, {Kind: api.TkSign, Text: "}", At: 9, Mark: 4},
		{Kind: api.TkName, Text: "if", At: 10, Mark: 5}, {Kind: api.TkName, Text: "end", At: 10, Mark: 5},
		{Kind: 77, Num: 3, Text: "no", At: -4, Mark: -5}, {Kind: api.TkName, Text: "end", At: -4, Mark: -5},
		{Kind: api.TkName, Text: "a"},
	}
	if got := Flat(l); !slices.Equal(got, want) {
		t.Errorf("Flat = %v; expected %v", got, want)
	}
	if got := Flat(nil); len(got) != 0 {
		t.Errorf("Flat(nil) = %v", got)
	}
}

// TestSizes asks all functions that tell number and depth at the limits.
func TestSizes(t *testing.T) {
	closed := func(l []api.Frag) []api.Frag { return within(1, l) }
	for _, x := range []struct {
		name        string
		l           []api.Frag
		size, depth int
		e           api.Errno
	}{
		{"nothing", nil, 0, 0, api.OK},
		{"a token", wide(1), 1, 0, api.OK},
		{"an empty group", closed(nil), 2, 1, api.OK},
		{"a token with a kid", []api.Frag{{Tok: tok("a"), Kids: closed(nil)}}, 1, 0, api.ErrFrag},
		{"groups", append(deep(2, "["), append(deep(3, "if"), deep(1, "{")...)...), 15, 3, api.OK},
		{"a group with no opening", []api.Frag{{Tok: tok("a"), Open: "a", Kids: deep(1, "(")}}, 5, 2, api.ErrFrag},
		{"many tokens", wide(api.MaxTokens), api.MaxTokens, 0, api.OK},
		{"too many tokens", wide(api.MaxTokens + 1), api.MaxTokens + 1, 0, api.ErrLong},
		{"far too many tokens", wide(3 * api.MaxTokens), api.MaxTokens + 1, 0, api.ErrLong},
		{"many tokens in a group", closed(wide(api.MaxTokens - 2)), api.MaxTokens, 1, api.OK},
		{"too many tokens in a group", closed(wide(api.MaxTokens - 1)), api.MaxTokens + 1, 1, api.ErrLong},
		{"a group of which the last token is one too many", closed(append(wide(api.MaxTokens-2), closed(nil)...)), api.MaxTokens + 1, 1 + 1, api.ErrLong},
		{"many groups", slices.Repeat(closed(nil), api.MaxTokens/2), api.MaxTokens, 1, api.OK},
		{"too many groups", slices.Repeat(closed(nil), api.MaxTokens/2+1), api.MaxTokens + 1, 1, api.ErrLong},
		{"deep groups", deep(api.MaxDeep, "begin"), 2*api.MaxDeep + 1, api.MaxDeep, api.OK},
		{"deep groups without a token", within(api.MaxDeep, nil), 2 * api.MaxDeep, api.MaxDeep, api.OK},
		{"deep groups with some tokens", within(api.MaxDeep, wide(3)), 2*api.MaxDeep + 3, api.MaxDeep, api.OK},
		{"too deep groups", append(wide(1), deep(api.MaxDeep+1, "begin")...), 2*api.MaxDeep + 1, api.MaxDeep + 1, api.ErrDeep},
		{"too deep groups without a token", within(api.MaxDeep+1, nil), 2 * api.MaxDeep, api.MaxDeep + 1, api.ErrDeep},
		{"groups that are deeper by two", within(api.MaxDeep+2, wide(1)), 2 * api.MaxDeep, api.MaxDeep + 1, api.ErrDeep},
		{"far too deep groups", deep(3*api.MaxDeep, "("), 2 * api.MaxDeep, api.MaxDeep + 1, api.ErrDeep},
		{"tokens around a group that is too deep", within(api.MaxDeep, slices.Concat(wide(2), closed(wide(5)), wide(1), deep(1, "if"), wide(1))), 2*api.MaxDeep + 4, api.MaxDeep + 1, api.ErrDeep},
		{"a group beside those that are too deep", within(api.MaxDeep-1, slices.Concat(deep(2, "["), deep(1, "{"))), 2*(api.MaxDeep-1) + 2 + 3, api.MaxDeep + 1, api.ErrDeep},
		{"too many tokens that are too deep", within(api.MaxDeep+1, wide(api.MaxTokens+1)), 2 * api.MaxDeep, api.MaxDeep + 1, api.ErrDeep},
		{"too many groups that are too deep", within(api.MaxDeep, slices.Repeat(closed(nil), api.MaxTokens)), 2 * api.MaxDeep, api.MaxDeep + 1, api.ErrDeep},
		{"many tokens beside a group that is too deep", within(api.MaxDeep, append(closed(nil), wide(api.MaxTokens-2*api.MaxDeep)...)), api.MaxTokens, api.MaxDeep + 1, api.ErrDeep},
		{"too many tokens beside a group that is too deep", within(api.MaxDeep, append(closed(nil), wide(api.MaxTokens-2*api.MaxDeep+1)...)), api.MaxTokens + 1, api.MaxDeep + 1, api.ErrDeep},
		{"too deep and too many", append(deep(api.MaxDeep+1, "("), wide(api.MaxTokens)...), api.MaxTokens + 1, api.MaxDeep + 1, api.ErrDeep},
		{"too many and not right", append(wide(api.MaxTokens), api.Frag{Tok: tok("end")}), api.MaxTokens + 1, 0, api.ErrLong},
		{"too deep and not right", deep(api.MaxDeep+1, "end"), 2 * api.MaxDeep, api.MaxDeep + 1, api.ErrDeep},
	} {
		if n := Size(x.l); n != x.size {
			t.Errorf("Size(%s) = %d; expected %d", x.name, n, x.size)
		}
		if n := Depth(x.l); n != x.depth {
			t.Errorf("Depth(%s) = %d; expected %d", x.name, n, x.depth)
		}
		if e := Check(x.l, nil); e != x.e {
			t.Errorf("Check(%s) = %d; expected %d", x.name, e, x.e)
		}
		if e := Check(x.l, []string{"slot"}); e != api.ErrArg {
			t.Errorf("Check(%s) with a word that is not right = %d", x.name, e)
		}
		want := oracleFlat(x.l)
		if x.depth > api.MaxDeep || x.size > api.MaxTokens {
			want = nil
		}
		if got := Flat(x.l); !slices.Equal(got, want) {
			t.Errorf("Flat(%s) has %d tokens; expected %d", x.name, len(got), len(want))
		}
		if same := Same(x.l, tidy(x.l)); same != (x.depth <= api.MaxDeep) {
			t.Errorf("Same(%s) = %v", x.name, same)
		}
	}
}

// TestSizeByChance has lists of fragments by chance within so many groups that some of theirs are too deep.
func TestSizeByChance(t *testing.T) {
	deeper := 0
	readable(23, 3000, func(r *rand.Rand, _ []api.Token, f []api.Frag, _ []string) {
		l := slices.Concat(f, within(api.MaxDeep-r.Intn(2), f), f)
		counted := oracleCut(l, api.MaxDeep)
		if n, want := Size(l), len(oracleFlat(counted)); n != want {
			t.Fatalf("Size of %s within many groups = %d; expected %d", show(f), n, want)
		}
		if Depth(l) > api.MaxDeep {
			deeper++
			if Size(counted) != Size(l) || Depth(counted) != api.MaxDeep {
				t.Fatalf("%s within many groups, without those that are too deep, has other numbers", show(f))
			}
		}
	})
	if deeper < 300 {
		t.Errorf("only %d lists are too deep", deeper)
	}
}

// TestEndless has groups that are within themselves: nothing looks for their end.
func TestEndless(t *testing.T) {
	l := []api.Frag{{Tok: tok("("), Open: "("}, {Tok: tok("["), Open: "["}}
	l[0].Kids, l[1].Kids = l, l
	if n := Depth(l); n != api.MaxDeep+1 {
		t.Errorf("Depth = %d", n)
	}
	if n := Size(l); n != api.MaxTokens+1 {
		t.Errorf("Size = %d", n)
	}
	if e := Check(l, nil); e != api.ErrDeep || Flat(l) != nil || Same(l, l) || Text(l) != "" {
		t.Errorf("Check = %d", e)
	}
	if m, e := Put(l, []int{0, 0}, nil); e != api.ErrLarge || m != nil {
		t.Errorf("Put = %d", e)
	}
}

func TestCheck(t *testing.T) {
	group := func(open string, kids ...api.Frag) api.Frag {
		return api.Frag{Tok: tok(open), Open: open, Kids: kids}
	}
	single := func(text string) api.Frag { return api.Frag{Tok: tok(text)} }
	for _, x := range []struct {
		name  string
		l     []api.Frag
		words string
		e     api.Errno
	}{
		{"nothing", []api.Frag{}, "", api.OK},
		{"an empty group", []api.Frag{group("("), {Tok: tok("["), Open: "[", Kids: []api.Frag{}}}, "", api.OK},
		{"a word as a token", []api.Frag{single("while")}, "", api.OK},
		{"a word in force as a token", []api.Frag{single("while")}, "while", api.ErrFrag},
		{"a word in force", []api.Frag{group("while", single("a"))}, "while", api.OK},
		{"a word that is not in force", []api.Frag{group("while", single("a"))}, "", api.ErrFrag},
		{"an opening sign as a token", []api.Frag{single("(")}, "", api.ErrFrag},
		{"signs as tokens", []api.Frag{single("("), single(")")}, "", api.ErrFrag},
		{"a closing sign", []api.Frag{single(")")}, "", api.ErrFrag},
		{"end", []api.Frag{group("if", single("end"))}, "", api.ErrFrag},
		{"another token", []api.Frag{{Tok: tok("["), Open: "("}}, "", api.ErrFrag},
		{"another word", []api.Frag{{Tok: tok("if"), Open: "begin"}}, "", api.ErrFrag},
		{"another opening", []api.Frag{{Tok: tok("if"), Open: "x"}}, "", api.ErrFrag},
		{"a name for a sign", []api.Frag{{Tok: tok("if"), Open: "("}}, "", api.ErrFrag},
		{"a closing token as an opening", []api.Frag{group(")")}, "", api.ErrFrag},
		{"a token with kids", []api.Frag{{Tok: tok("a"), Kids: wide(1)}}, "", api.ErrFrag},
		{"a token that is not valid", []api.Frag{{Tok: api.Token{Kind: api.TkName, Text: "a", At: -1}}}, "", api.ErrFrag},
		{"a group's token that is not valid", []api.Frag{{Tok: api.Token{Kind: api.TkSign, Text: "(", Mark: -1}, Open: "("}}, "", api.ErrFrag},
		{"class slot", []api.Frag{single("class"), single("slot")}, "", api.OK},
		{"class, and no slot", []api.Frag{single("class"), single("a")}, "", api.ErrFrag},
		{"class at the end", []api.Frag{single("class")}, "", api.ErrFrag},
		{"a group class ahead of slot", []api.Frag{group("class", single("slot"))}, "", api.ErrFrag},
		{"a word behind macro", []api.Frag{group("macro", single("while"), group("{"))}, "while", api.OK},
		{"a group behind macro", []api.Frag{group("macro", group("if"))}, "", api.ErrFrag},
		{"a group of a sign behind macro", []api.Frag{group("macro", group("("))}, "", api.OK},
		{"what would be dropped", []api.Frag{group("method", single("m")), single("m")}, "", api.ErrFrag},
		{"what would not be dropped", []api.Frag{group("method", single("m")), single("m"), single("m")}, "", api.OK},
		{"what would be dropped in a group", []api.Frag{group("[", group("class", single("m")), single("m"))}, "", api.ErrFrag},
	} {
		if e := Check(x.l, strings.Fields(x.words)); e != x.e {
			t.Errorf("Check(%s) = %d; expected %d", x.name, e, x.e)
		}
	}
}

func TestCheckByChance(t *testing.T) {
	r := rand.New(rand.NewSource(22))
	seen := map[api.Errno]int{}
	for range 20000 {
		words := []string{"while", "a", "m"}[:r.Intn(4)]
		l, _, e := Read(tokensByChance(r, 16), words)
		if e != api.OK {
			continue
		}
		for range r.Intn(3) {
			l = spoiled(r, l)
		}
		want := api.OK
		if again, _, e := oracleRead(oracleFlat(l), words); e != api.OK || !identicalLists(again, l) {
			want = api.ErrFrag
		}
		if e := Check(l, words); e != want {
			t.Fatalf("Check(%s, %v) = %d; expected %d", show(l), words, e, want)
		}
		seen[want]++
	}
	if seen[api.OK] < 1000 || seen[api.ErrFrag] < 1000 {
		t.Errorf("texts: %v", seen)
	}
}

func TestSame(t *testing.T) {
	l := read(t, "a ( x , method m 1 end ) [ ]")
	for _, x := range []struct {
		name   string
		change func(m []api.Frag)
		want   bool
	}{
		{"nothing", func(m []api.Frag) {}, true},
		{"At and Mark", func(m []api.Frag) { m[0].Tok.At, m[1].Tok.Mark, m[1].Kids[0].Tok.At = -1, 9, 77 }, true},
		{"an empty list", func(m []api.Frag) { m[2].Kids = []api.Frag{} }, true},
		{"a text", func(m []api.Frag) { m[1].Kids[0].Tok.Text = "y" }, false},
		{"a number", func(m []api.Frag) { m[1].Kids[2].Kids[1].Tok.Num = 2 }, false},
		{"a kind", func(m []api.Frag) { m[0].Tok.Kind = api.TkKey }, false},
		{"a group's token", func(m []api.Frag) { m[1].Tok.Text = "[" }, false},
		{"an opening", func(m []api.Frag) { m[1].Open = "[" }, false},
		{"a group as a token", func(m []api.Frag) { m[2].Open = "" }, false},
		{"one more", func(m []api.Frag) { m[1].Kids[2].Kids = append(m[1].Kids[2].Kids, m[0]) }, false},
		{"one less", func(m []api.Frag) { m[1].Kids[2].Kids = m[1].Kids[2].Kids[:1] }, false},
		{"kids of a token", func(m []api.Frag) { m[0].Kids = wide(1) }, false},
	} {
		m := tidy(l)
		x.change(m)
		if Same(l, m) != x.want || Same(m, l) != x.want {
			t.Errorf("Same with another %s = %v", x.name, !x.want)
		}
	}
	if !Same(nil, []api.Frag{}) || Same(nil, l) || Same(l, l[:2]) || Same(deep(api.MaxDeep+1, "("), nil) || Same(nil, deep(api.MaxDeep+1, "(")) {
		t.Error("Same of lists of other lengths or too deep ones")
	}
}

func TestSplitAndJoin(t *testing.T) {
	for _, x := range []struct {
		text, sign string
		want       []string
	}{
		{"", ",", []string{""}},
		{"a b", ",", []string{"a b"}},
		{"a , b", ",", []string{"a", "b"}},
		{", a", ",", []string{"", "a"}},
		{"a ,", ",", []string{"a", ""}},
		{",", ",", []string{"", ""}},
		{"a , , b , c d", ",", []string{"a", "", "b", "c d"}},
		{", , ,", ",", []string{"", "", "", ""}},
		{"a , b ; c", ";", []string{"a , b", "c"}},
		{"f ( x , y ) , ( z )", ",", []string{"f (x , y)", "(z)"}},
		{"a end: b", "end:", []string{"a end: b"}},
		{"a b c", "b", []string{"a b c"}},
		{"( ) [ ]", "(", []string{"() []"}},
		{"a = = b", "==", []string{"a = = b"}},
		{"a 1", "", []string{"a 1"}},
	} {
		l := read(t, x.text)
		var got []string
		pieces := Split(l, x.sign)
		for _, p := range pieces {
			got = append(got, show(p))
		}
		if !slices.Equal(got, x.want) {
			t.Errorf("Split(%s, %s) = %q; expected %q", x.text, x.sign, got, x.want)
		}
		if m := Join(pieces, x.sign); show(m) != show(l) {
			t.Errorf("Join(Split(%s, %s)) = %s", x.text, x.sign, show(m))
		}
	}
	odd := []api.Frag{{Tok: api.Token{Kind: api.TkSign, Num: 3, Text: ",", At: -1}}, {Tok: api.Token{Kind: api.TkSign, Text: "no"}, Kids: wide(1)}, {Tok: tok(","), Open: ","}, {Tok: api.Token{Kind: api.TkName, Text: ","}}}
	if l := Split(odd, ","); len(l) != 2 || len(l[0]) != 0 || !identicalLists(l[1], odd[1:]) {
		t.Errorf("Split of odd fragments = %v", l)
	}
	if l := Split(odd, "no"); len(l) != 2 || !identicalLists(l[0], odd[:1]) || !identicalLists(l[1], odd[2:]) {
		t.Errorf("Split of odd fragments = %v", l)
	}
	if l := Join(nil, ","); len(l) != 0 {
		t.Errorf("Join(nil) = %v", l)
	}
	if l := Join([][]api.Frag{nil}, ","); len(l) != 0 {
		t.Errorf("Join of an empty piece = %v", l)
	}
	l := Join([][]api.Frag{wide(1), nil, odd[2:]}, "no sign")
	sign := api.Frag{Tok: api.Token{Kind: api.TkSign, Text: "no sign"}}
	if want := []api.Frag{wide(1)[0], sign, sign, odd[2], odd[3]}; !identicalLists(l, want) {
		t.Errorf("Join = %v; expected %v", l, want)
	}
}

func TestAt(t *testing.T) {
	l := read(t, "f ( x , [ 1 ] ) g")
	odd := []api.Frag{{Tok: tok("a"), Kids: wide(1)}}
	for _, x := range []struct {
		l    []api.Frag
		path []int
		want string
	}{
		{l, []int{0}, "f"}, {l, []int{1}, "(x , [1])"}, {l, []int{1, 0}, "x"}, {l, []int{1, 2}, "[1]"}, {l, []int{1, 2, 0}, "1"}, {l, []int{2}, "g"},
		{l, nil, ""}, {l, []int{}, ""}, {l, []int{3}, ""}, {l, []int{-1}, ""}, {l, []int{1, 3}, ""}, {l, []int{1, -1}, ""}, {l, []int{0, 0}, ""}, {l, []int{1, 2, 0, 0}, ""}, {l, []int{1, 2, 1}, ""}, {nil, []int{0}, ""}, {nil, nil, ""},
		{odd, []int{0, 0}, "x"},
	} {
		f, e := At(x.l, x.path)
		if x.want == "" {
			if e != api.ErrNone || f.Open != "" || f.Kids != nil || f.Tok != (api.Token{}) {
				t.Errorf("At(%v) = %v, %d", x.path, f, e)
			}
			if m, e := Put(x.l, x.path, deep(api.MaxDeep+1, "(")); e != api.ErrNone || m != nil {
				t.Errorf("Put(%v) = %s, %d", x.path, show(m), e)
			}
			continue
		}
		if e != api.OK || show([]api.Frag{f}) != x.want {
			t.Errorf("At(%v) = %v, %d; expected %s", x.path, f, e, x.want)
		}
	}
	if f, _ := At(l, []int{1, 2}); f.Tok.At != 4 || f.Open != "[" || len(f.Kids) != 1 {
		t.Errorf("At = %v", f)
	}
}

func TestPut(t *testing.T) {
	l := read(t, "f ( x , [ 1 ] ) g")
	for _, x := range []struct {
		path []int
		by   string
		want string
	}{
		{[]int{0}, "a b", "a b (x , [1]) g"},
		{[]int{0}, "", "(x , [1]) g"},
		{[]int{2}, "( )", "f (x , [1]) ()"},
		{[]int{1}, "a", "f a g"},
		{[]int{1, 0}, "", "f (, [1]) g"},
		{[]int{1, 1}, "if a end b", "f (x <if:a> b [1]) g"},
		{[]int{1, 2, 0}, "", "f (x , []) g"},
		{[]int{1, 2, 0}, "2 , 3", "f (x , [2 , 3]) g"},
		{[]int{1, 2}, "( ( y ) )", "f (x , ((y))) g"},
	} {
		m, e := Put(l, x.path, read(t, x.by))
		if e != api.OK || show(m) != x.want {
			t.Errorf("Put(%v, %s) = %s, %d; expected %s", x.path, x.by, show(m), e, x.want)
		}
	}
	if show(l) != "f (x , [1]) g" {
		t.Errorf("Put changed its argument: %s", show(l))
	}
	inner := slices.Repeat([]int{0}, api.MaxDeep)
	for _, x := range []struct {
		name string
		l    []api.Frag
		path []int
		by   []api.Frag
		e    api.Errno
	}{
		{"a group at the greatest depth", deep(api.MaxDeep-1, "("), inner, deep(1, "("), api.OK},
		{"a group at a greater depth", deep(api.MaxDeep-1, "("), inner, deep(2, "("), api.ErrLarge},
		{"a group in the deepest group", deep(api.MaxDeep, "("), append(inner, 0), deep(1, "("), api.ErrLarge},
		{"a token in the deepest group", deep(api.MaxDeep, "("), append(inner, 0), wide(2), api.OK},
		{"a token beside what is too deep", append(deep(api.MaxDeep+1, "("), wide(1)...), []int{1}, wide(1), api.ErrLarge},
		{"a token in the place of what is too deep", append(deep(api.MaxDeep+1, "("), wide(1)...), []int{0}, wide(1), api.OK},
		{"a token in what is too deep", deep(api.MaxDeep+1, "("), append(inner, 0), wide(1), api.OK},
		{"as many tokens as may be", append(wide(2), deep(1, "(")...), []int{2, 0}, wide(api.MaxTokens - 4), api.OK},
		{"more tokens than may be", append(wide(2), deep(1, "(")...), []int{2, 0}, wide(api.MaxTokens - 3), api.ErrLarge},
		{"fewer tokens", wide(api.MaxTokens + 1), []int{api.MaxTokens}, nil, api.OK},
		{"as many tokens", wide(api.MaxTokens + 1), []int{api.MaxTokens}, wide(1), api.ErrLarge},
		{"what no Read returns", wide(1), []int{0}, []api.Frag{{Tok: tok(")"), Open: "x", Kids: wide(1)}}, api.OK},
	} {
		m, e := Put(x.l, x.path, x.by)
		if e != x.e || e != api.OK && m != nil {
			t.Errorf("Put of %s = %d; expected %d", x.name, e, x.e)
		}
		if f, _ := At(m, x.path); e == api.OK && len(x.by) > 0 && !identicalLists([]api.Frag{f}, x.by[:1]) {
			t.Errorf("Put of %s: At = %v", x.name, f)
		}
	}
}

func TestText(t *testing.T) {
	for _, x := range []struct {
		l    []api.Frag
		want string
	}{
		{nil, ""},
		{read(t, "f ( x , [ -1 ] )"), "f ( x , [ -1 ] )"},
		{read(t, "method m x: #t end method m ;"), "method m x: #t end ;"},
		{[]api.Frag{{Tok: tok("a"), Open: "q"}}, "a end"},
		{[]api.Frag{{Tok: tok("a")}, {Tok: api.Token{Kind: api.TkName, Text: "A"}}}, ""},
		{[]api.Frag{{Tok: api.Token{Kind: api.TkSign, Text: "(", At: -1}, Open: "("}}, ""},
		{deep(api.MaxDeep+1, "("), ""},
		{wide(api.MaxTokens + 1), ""},
	} {
		if s := Text(x.l); s != x.want {
			t.Errorf("Text = %q; expected %q", s, x.want)
		}
	}
}

// TestApart changes results, and looks whether arguments, or other parts of the results, change with them.
func TestApart(t *testing.T) {
	text := "f ( x , [ 1 ] ) , g ( { y } )"
	scribble := func(l []api.Frag) {
		var all func(l []api.Frag)
		all = func(l []api.Frag) {
			for i := range l {
				all(l[i].Kids)
				l[i] = api.Frag{}
			}
			_ = append(l, api.Frag{Open: "changed"})
		}
		all(l)
	}
	l := read(t, text)
	want := show(l)
	check := func(name string, l []api.Frag, want string) {
		t.Helper()
		if show(l) != want {
			t.Errorf("%s shares memory: %s", name, show(l))
		}
	}
	pieces := Split(l, ",")
	scribble(pieces[0])
	check("Split", l, want)
	check("Split", pieces[1], "g ({y})")
	scribble(pieces[1])
	check("Split", l, want)
	pieces = Split(l, ",")
	joined := Join([][]api.Frag{pieces[0], pieces[0]}, ";")
	scribble(slices.Clip(joined[:2]))
	check("Join", pieces[0], "f (x , [1])")
	check("Join", joined[2:], "; f (x , [1])")
	f, _ := At(l, []int{1})
	scribble(f.Kids)
	check("At", l, want)
	by := read(t, "( a )")
	m, _ := Put(l, []int{1, 2, 0}, by)
	scribble(m)
	check("Put", l, want)
	check("Put", by, "(a)")
	m, _ = Put(l, []int{0}, append(by, by...))
	scribble(slices.Clip(m[:1]))
	check("Put", m[1:], "(a) (x , [1]) , g ({y})")
	check("Put", by, "(a)")
}
