package syntax

import (
	"math"
	"math/rand"
	"slices"
	"strings"
	"testing"

	"skerry/api"
	"skerry/lex"
)

// parsed is the index and the error of parsing tokens as what a symbol of the grammar stands for, and whether the result is zero.
func parsed(start string, l []api.Token) (at int, e api.Errno, zero bool) {
	switch start {
	case "source":
		s, at, e := ParseTokens(l)
		return at, e, same(s, api.Source{})
	case "type":
		x, at, e := ParseType(l)
		return at, e, same(x, api.Type{})
	}
	x, at, e := ParseExpr(l)
	return at, e, same(x, api.Expr{})
}

// The texts have each form of the grammar, with each of its optional parts and without it.
var corpus = map[string][]string{
	"expr": {
		"3", "-3 ( #t )", "x@l . y ( ) . z", "( a )", "begin end", "begin a end", "begin a ; end", "begin a ; b end", "begin let x = a end", "begin let x = a ; end", "begin let x = a ; x end", "begin let handler <e> = h ; a end", "begin a ; let handler <e> = h end",
		"begin local method f ( ) end end", "begin local method f ( x :: <a> ) x ; end ; f ; end", "method ( ) end", "method ( x ) x end", "method ( x == 3 , y == #f , z :: <a> ) x ; end", "if ( a ) end", "if ( a ) b end", "if ( a ) b else c end", "if ( a ) b ; elseif ( c ) d ; else e ; end", "if ( a ) elseif ( c ) elseif ( d ) else end",
		"block ( ) end", "block ( x ) a ; b end", "block ( x ) a cleanup b ; end", "next-method ( )", "next-method ( a , b )", "make ( a )", "make ( a , k: b , l: c )", "instance? ( a , <b> )", "load-patch ( 3 )", "print ( a )", "signal ( a )", "object-class ( a )", "quotient ( a , b )",
		"f ( ) := a", "f ( x ) := b . c := d", "a & b | c", "a = b == c", "a < b > c <= d >= e", "a + b - c", "a * b / c", "- ~ - a", "a + ~ b",
	},
	"type": {"<a>", "limited ( -9 , 0 )", "singleton ( 3 )", "singleton ( #t )", "subclass ( <a> )", "type-union ( )", "type-union ( <a> , type-union ( <b> ) )"},
	"source": {
		"library a ;", "patch a ;", "library a ; use b ; use c , prefix: p ; export x ; x", "library a ; use b , import: { x , y => z } ; export x , y ; x ;", "library a ; define constant x = 3 ; define constant y = f ( x ) ;", "library a ; define generic f ( ) ; 3", "library a ; define sealed generic f ( x , y ) ;",
		"library a ; define method f ( ) end ;", "library a ; define sealed method f ( x :: <a> ) => <b> x ; end ;", "library a ; define sealed domain f ( ) ;", "library a ; define sealed domain f ( <a> , <b> ) ;",
		"library a ; define class c ( b ) end ;", "library a ; define abstract class c ( b , d ) slot x ; end ;", "library a ; define sealed class c ( b ) end ;", "library a ; define abstract sealed class c ( b ) class slot x :: <a> , init-keyword: k: ; each-subclass slot y , init-value: 3 , init-keyword: l: ; virtual slot z ; end ;",
	},
}

// vocabulary has tokens of all sorts, the last one of which is not valid.
func vocabulary() []api.Token {
	l := toks("x x@l <a> 0 3 -3 #t #f k: prefix: import: init-keyword: init-value: define: ( ) [ ] { } , ; . = < > + - * / & | ~ ? := :: => == <= >= ?x ?x:y")
	l = append(l, toks(strings.Join(reservedWords, " "))...)
	return append(l, api.Token{Kind: api.TkName, Text: "x", At: -1})
}

// agree fails unless parsing has the error that the grammar demands. (A := that the grammar lets stand may be refused for what is ahead of it.)
func agree(t *testing.T, start string, l []api.Token, wantAt int, want api.Errno) {
	t.Helper()
	at, e, zero := parsed(start, l)
	if e == api.ErrParse && at < wantAt && l[at].Text == ":=" {
		return
	}
	if want == api.OK && at == len(l) && e == api.ErrForm && zero {
		return
	}
	if at != wantAt && want != api.OK || e != want || zero != (e != api.OK) || e == api.OK && at != 0 {
		t.Fatalf("%s %q = %d at %d; expected %d at %d", start, lex.Join(l), e, at, want, wantAt)
	}
}

// P4.1: each token of each text is replaced by each token, each one is put ahead of it, and it is left out.
func TestEachToken(t *testing.T) {
	g := newGrammar()
	words := vocabulary()
	counts := map[api.Errno]int{}
	for start, texts := range corpus {
		for _, text := range texts {
			l := toks(text)
			if at, e, _ := parsed(start, l); e != api.OK {
				t.Errorf("%s %q = %d at %d", start, text, e, at)
			}
			c := g.begin(start)
			for i := range len(l) + 1 {
				at, e := g.verdict(c, start, nil)
				agree(t, start, l[:i], at, e)
				for _, w := range words {
					for _, rest := range [][]api.Token{l[i:], l[min(i+1, len(l)):]} {
						rest = append([]api.Token{w}, rest...)
						at, e := g.verdict(c, start, rest)
						agree(t, start, slices.Concat(l[:i], rest), at, e)
						counts[e]++
					}
				}
				if i < len(l) {
					at, e := g.verdict(c, start, l[i+1:])
					agree(t, start, slices.Concat(l[:i], l[i+1:]), at, e)
					c = g.next(c, l[i])
				}
			}
		}
	}
	if counts[api.OK] < 500 || counts[api.ErrParse] < 10000 || counts[api.ErrReserve] < 5000 {
		t.Errorf("the verdicts are %v", counts)
	}
}

// P4.1: several tokens are changed.
func TestSomeTokens(t *testing.T) {
	g := newGrammar()
	words := vocabulary()
	words = words[:len(words)-1]
	r := rand.New(rand.NewSource(1))
	starts := []string{"expr", "type", "source"}
	for range 4000 {
		start := starts[r.Intn(3)]
		texts := corpus[start]
		l := toks(texts[r.Intn(len(texts))])
		for range 1 + r.Intn(4) {
			i := r.Intn(len(l) + 1)
			put := toks(texts[r.Intn(len(texts))])
			if r.Intn(2) == 0 {
				put = words[r.Intn(len(words)):][:1]
			}
			l = slices.Concat(l[:i], put, l[min(len(l), i+r.Intn(2)):])
		}
		at, e := g.verdict(g.begin(start), start, l)
		agree(t, start, l, at, e)
	}
}

// P4.1: errors, and their indices, where -1 is the number of tokens
func TestErrors(t *testing.T) {
	for _, x := range []struct {
		start, text string
		at          int
		want        api.Errno
	}{
		{"expr", "let", 0, api.ErrReserve}, {"expr", "1 := 2", 1, api.ErrParse}, {"expr", "f (", 2, api.ErrParse}, {"expr", "a b", 1, api.ErrParse}, {"expr", "a let", 1, api.ErrParse}, {"expr", "", 0, api.ErrParse}, {"type", "", 0, api.ErrParse}, {"source", "", 0, api.ErrParse},
		{"expr", "a ; b", 1, api.ErrParse}, {"expr", "let x = 1 ; x", 0, api.ErrReserve}, {"expr", "begin let end", 2, api.ErrReserve}, {"expr", "begin let handler end", 3, api.ErrReserve}, {"expr", "begin local x", 2, api.ErrParse}, {"expr", "begin local let", 2, api.ErrParse}, {"expr", "a . end", 2, api.ErrReserve}, {"expr", "a . 3", 2, api.ErrParse},
		{"expr", "begin ; end", 1, api.ErrParse}, {"expr", "begin a ; ; end", 3, api.ErrParse}, {"expr", "begin a b end", 2, api.ErrParse}, {"expr", "begin a else", 2, api.ErrParse}, {"expr", "begin else", 1, api.ErrReserve}, {"expr", "begin a ; cleanup", 3, api.ErrReserve}, {"expr", "if ( a ) cleanup", 4, api.ErrReserve}, {"expr", "if ( a ) b else c elseif", 7, api.ErrParse},
		{"expr", "( )", 1, api.ErrParse}, {"expr", "f ( , )", 2, api.ErrParse}, {"expr", "f ( a , )", 4, api.ErrParse}, {"expr", "make ( )", 2, api.ErrParse}, {"expr", "make ( a , b )", 4, api.ErrParse}, {"expr", "make ( a , k: )", 5, api.ErrParse}, {"expr", "quotient ( a )", 3, api.ErrParse}, {"expr", "print ( a , b )", 3, api.ErrParse}, {"expr", "print", 1, api.ErrParse}, {"expr", "load-patch ( a )", 2, api.ErrParse},
		{"expr", "a -3", 1, api.ErrParse}, {"expr", "k:", 0, api.ErrParse}, {"expr", "?x", 0, api.ErrParse}, {"expr", "[ a ]", 0, api.ErrParse},
		// what is not a place
		{"expr", "a := b", 1, api.ErrParse}, {"expr", "( a ) := b", 3, api.ErrParse}, {"expr", "a + f ( ) := b", 5, api.ErrParse}, {"expr", "- f ( ) := b", 4, api.ErrParse}, {"expr", "f ( ) ( ) := b", 5, api.ErrParse}, {"expr", "a | b := c", 3, api.ErrParse}, {"expr", "next-method ( ) := b", 3, api.ErrParse}, {"expr", "print ( a ) := b", 4, api.ErrParse}, {"expr", "3 ( ) := b", 3, api.ErrParse}, {"expr", "begin f ( ) ; g ( ) end := b", 9, api.ErrParse},
		{"expr", "f ( ) := a := )", 5, api.ErrParse}, {"expr", "a := )", 1, api.ErrParse}, {"expr", "f ( ) :=", 4, api.ErrParse}, {"expr", "make ( f ( ) ) := b", 6, api.ErrParse},
		// qualified names with marks
		{"expr", "x@l'1", 0, api.ErrParse}, {"expr", "a . x@l'1", 2, api.ErrParse}, {"expr", "begin let x@l'1 = a end", 2, api.ErrParse}, {"expr", "begin local method x@l'1 ( ) end end", 3, api.ErrParse}, {"expr", "method ( a , x@l'1 ) end", 4, api.ErrParse}, {"expr", "block ( x@l'1 ) end", 2, api.ErrParse}, {"source", "library a ; x@l'1", 3, api.ErrParse}, {"source", "library a ; define method f ( x@l'1 ) end ;", 7, api.ErrParse},
		{"expr", "begin let x@1 = a ; x@1'1 end", 6, api.ErrParse},
		// the first one from the left
		{"expr", "f ( let ) )", 2, api.ErrReserve}, {"expr", "f ( ) ) let", 3, api.ErrParse}, {"source", "library let ; )", 1, api.ErrReserve}, {"source", "library a ) let", 2, api.ErrParse},
		// sources
		{"source", "let", 0, api.ErrParse}, {"source", "a", 0, api.ErrParse}, {"source", "library a", 2, api.ErrParse}, {"source", "library a ; define", 4, api.ErrParse}, {"source", "library a ; define let", 4, api.ErrParse}, {"source", "library a ; define domain", 4, api.ErrParse}, {"source", "library a ; define sealed constant", 5, api.ErrParse}, {"source", "library a ; define sealed abstract class", 5, api.ErrParse}, {"source", "library a ; define abstract sealed domain", 6, api.ErrParse}, {"source", "library a ; define abstract method", 5, api.ErrParse},
		{"source", "library a ; export x ; use b ;", 6, api.ErrReserve}, {"source", "library a ; a ; a", 5, api.ErrParse}, {"source", "library a ; a define", 4, api.ErrParse}, {"source", "library a ; a ; define", 5, api.ErrParse}, {"source", "library a ; ;", 3, api.ErrParse}, {"source", "library a ; define class c ( ) end ;", 7, api.ErrParse}, {"source", "library a ; define class let", 5, api.ErrReserve}, {"source", "library a ; define class c ( b ) let", 9, api.ErrParse}, {"source", "library a ; define class c ( b ) slot x end", 11, api.ErrParse},
		{"source", "library a ; use b , p", 6, api.ErrParse}, {"source", "library a ; use b , import: { }", 8, api.ErrParse}, {"source", "library a ; use b , prefix: import", 7, api.ErrReserve}, {"source", "library a ; define class c ( b ) slot x , k: 3", 12, api.ErrParse}, {"source", "library a ; define class c ( b ) slot x , init-keyword: k", 13, api.ErrParse},
		// Check
		{"expr", "begin let <a>@l = 1 ; <a>@l end", 0, api.OK}, {"expr", "load-patch ( -1 )", -1, api.ErrForm}, {"expr", "make ( a , k: b , k: c )", -1, api.ErrForm}, {"expr", "method ( x , x ) end", -1, api.ErrForm}, {"type", "limited ( 1 , 0 )", -1, api.ErrForm},
		{"source", "library a ; use b ; use b ;", -1, api.ErrForm}, {"source", "library <a> ;", -1, api.ErrForm}, {"source", "library a@l ;", -1, api.ErrForm}, {"source", "patch a ; use b ;", -1, api.ErrForm}, {"source", "patch a ; export b ;", -1, api.ErrForm}, {"source", "patch a ; b", -1, api.ErrForm}, {"source", "library a ; define constant x@l = 1 ;", -1, api.ErrForm}, {"source", "library a ; define generic f@l ( ) ;", -1, api.ErrForm}, {"source", "library a ; define class c@l ( b ) end ;", -1, api.ErrForm}, {"source", "library a ; define class c ( b ) slot x@l ; end ;", -1, api.ErrForm}, {"source", "library a ; define class c ( b ) virtual slot x , init-value: 1 ; end ;", -1, api.ErrForm}, {"source", "library a ; use b , import: { x@l } ;", -1, api.ErrForm},
	} {
		l := toks(x.text)
		if x.at < 0 {
			x.at = len(l)
		}
		at, e, zero := parsed(x.start, l)
		if at != x.at || e != x.want || zero != (e != api.OK) {
			t.Errorf("%s %q = %d at %d; expected %d at %d", x.start, x.text, e, at, x.want, x.at)
		}
	}
}

// Tokens that are not valid cannot stand anywhere.
func TestTokensThatAreNotValid(t *testing.T) {
	wrong := []api.Token{
		{}, {Kind: api.TkName}, {Kind: api.TkName, Text: "b", At: -1}, {Kind: api.TkName, Text: "b", Mark: -1}, {Kind: api.TkName, Text: "b", Num: 1}, {Kind: api.TkKey, Text: "b"}, {Kind: 9, Text: "b"}, {Kind: api.TkName, Text: "b c"}, {Kind: api.TkName, Text: "let", At: -1},
		{Kind: api.TkNum, Text: "3", Num: 4}, {Kind: api.TkNum, Text: "03", Num: 3}, {Kind: math.MinInt, Text: "(", At: math.MinInt}, {Kind: api.PcBlank, Text: " "}, {Kind: api.TkSign, Text: "end"}, {Kind: api.TkName, Text: "ä"},
	}
	for start, texts := range corpus {
		for _, text := range texts {
			l := toks(text)
			for i := range l {
				for _, w := range wrong {
					m := slices.Clone(l)
					m[i] = w
					if at, e, zero := parsed(start, m); at != i || e != api.ErrParse || !zero {
						t.Fatalf("%s %q with %v at %d = %d at %d", start, text, w, i, e, at)
					}
				}
			}
			for _, w := range wrong {
				if at, e, _ := parsed(start, append(l[:len(l):len(l)], w)); at != len(l) || e != api.ErrParse {
					t.Fatalf("%s %q with %v behind it = %d at %d", start, text, w, e, at)
				}
			}
		}
	}
}

// The limits of parsing, just within and just beyond. The index -1 is the number of tokens.
func TestLimitsOfParsing(t *testing.T) {
	const most = 2 * api.MaxDeep
	for _, x := range []struct {
		name, start, text string
		at                int
		want              api.Errno
	}{
		{"MaxTokens", "source", "library a ; " + times(api.MaxTokens-4, "~ ") + "a", 3 + most, api.ErrDeep}, {"MaxTokens + 1", "source", "library a ; " + times(api.MaxTokens-3, "~ ") + "a", 0, api.ErrLong}, {"MaxTokens + 1", "expr", times(api.MaxTokens+1, ") "), 0, api.ErrLong}, {"MaxTokens + 1", "type", times(api.MaxTokens+1, ") "), 0, api.ErrLong}, {"MaxTokens", "type", times(api.MaxTokens, ") "), 0, api.ErrParse},
		{"MaxTokens", "expr", "begin ( ( a ) ) ; " + list(1498, "( a )", " ; ") + " ; end", 0, api.OK}, {"MaxTokens + 1", "expr", "begin ( ( ( a ) ) ) ; " + list(1498, "( a )", " ; ") + " end", 0, api.ErrLong},
		// expressions within each other
		{"parentheses", "expr", times(most-1, "( ") + "a" + times(most-1, " )"), 0, api.OK}, {"parentheses", "expr", times(most, "( ") + "a" + times(most, " )"), most, api.ErrDeep}, {"parentheses", "expr", times(most, "( ") + "- a", most, api.ErrDeep}, {"parentheses", "expr", times(most, "( ") + "( a", most, api.ErrDeep},
		{"no expression", "expr", times(most, "( ") + ")", most, api.ErrParse}, {"no expression", "expr", times(most, "( ") + "let", most, api.ErrReserve}, {"no expression", "expr", times(most, "( ") + "x@l'1", most, api.ErrParse}, {"no expression", "expr", times(most, "( "), most, api.ErrParse}, {"no expression", "expr", times(most-1, "( ") + "f ( )", most + 2, api.ErrParse},
		{"parentheses in a source", "source", "library a ; " + times(most-1, "( ") + "a" + times(most-1, " )"), 0, api.OK}, {"parentheses in a source", "source", "library a ; " + times(most, "( ") + "a" + times(most, " )"), 3 + most, api.ErrDeep},
		{"operands", "expr", times(most-1, "~ ") + "a", most, api.ErrDeep}, {"operands", "expr", times(most, "- ") + "a b", most, api.ErrDeep}, {"operands", "expr", times(most-1, "~ ") + "a b", most, api.ErrParse}, {"operands", "expr", times(99, "~ ") + "a", 0, api.OK}, {"operands", "expr", times(most, "~ ") + ")", most, api.ErrParse},
		{"operands and parentheses", "expr", times(99, "~ ( ") + "( a" + times(100, " )"), 0, api.OK}, {"operands and parentheses", "expr", times(99, "~ ( ") + "( ( a", most, api.ErrDeep},
		{"arguments", "expr", times(most-1, "f ( ") + "a b", 2*most - 1, api.ErrParse}, {"arguments", "expr", times(most, "f ( ") + "a", 2 * most, api.ErrDeep}, {"values", "expr", times(most-1, "f ( ) := ") + "a b", 4*most - 3, api.ErrParse}, {"values", "expr", times(most, "f ( ) := ") + "a", 4 * most, api.ErrDeep},
		{"bodies", "expr", times(most-1, "begin ") + "a" + times(most-1, " end"), 0, api.OK}, {"bodies", "expr", times(most, "begin ") + "a" + times(most, " end"), most, api.ErrDeep}, {"bodies", "expr", times(most, "begin ") + times(most, "end "), 0, api.OK}, {"behind each other", "expr", "begin " + list(1000, "( a )", " ; ") + " end", 0, api.OK}, {"operands behind each other", "expr", "begin " + list(300, "- a", " ; ") + " end", 0, api.OK}, {"types behind each other", "expr", "begin " + list(300, "instance? ( a , <b> )", " ; ") + " end", 0, api.OK}, {"values behind each other", "expr", "begin " + list(300, "f ( ) := a", " ; ") + " end", 0, api.OK},
		{"a row of operators", "expr", list(101, "a", " + "), -1, api.ErrDeep}, {"a row of operators", "expr", list(100, "a", " + "), 0, api.OK}, {"a row of statements", "expr", "begin " + times(99, "let x = a ; ") + "x end", 0, api.OK}, {"a row of statements", "expr", "begin " + times(100, "let x = a ; ") + "x end", -1, api.ErrDeep},
		// types within each other
		{"types", "type", times(most-1, "type-union ( ") + "a b", 2*most - 1, api.ErrParse}, {"types", "type", times(most, "type-union ( ") + "a", 2 * most, api.ErrDeep}, {"types", "type", times(99, "type-union ( ") + "a" + times(99, " )"), 0, api.OK}, {"types", "type", times(100, "type-union ( ") + "a" + times(100, " )"), -1, api.ErrDeep}, {"types", "type", times(most, "type-union ( ") + ")", 2*most + 1, api.ErrParse}, {"types", "type", times(most, "type-union ( ") + "let", 2 * most, api.ErrReserve}, {"types", "type", times(most, "type-union ( ") + "limited", 2 * most, api.ErrDeep},
		{"types in expressions", "expr", times(most-1, "( ") + "instance? ( a", most + 1, api.ErrDeep}, {"types in expressions", "expr", times(most-2, "( ") + "instance? ( a , " + times(most-1, "type-union ( ") + "a b", 3*most + 1, api.ErrParse},
		// Check, with all tokens there
		{"MaxNodes", "expr", "begin " + list(api.MaxNodes-1, "a", " ; ") + " end", 0, api.OK}, {"MaxNodes + 1", "expr", "begin " + list(2001, "a", " ; ") + " ; " + list(500, "a", " + ") + " end", -1, api.ErrLong}, {"MaxArgs + 1", "expr", "f ( " + list(api.MaxArgs+1, "a", " , ") + " )", -1, api.ErrForm},
	} {
		l := toks(x.text)
		if x.at < 0 {
			x.at = len(l)
		}
		at, e, zero := parsed(x.start, l)
		if at != x.at || e != x.want || zero != (e != api.OK) {
			t.Errorf("%s: %s of %.40q (%d tokens) = %d at %d; expected %d at %d", x.name, x.start, x.text, len(l), e, at, x.want, x.at)
		}
	}
}

// Each reserved word, where a name is demanded and where it is not.
func TestReservedWords(t *testing.T) {
	if len(reservedWords) != 40 {
		t.Errorf("there are %d reserved words", len(reservedWords))
	}
	for _, x := range []struct {
		start, text string // # is the word
		unless      string // the words that the grammar lets stand there
		want        api.Errno
	}{
		{"expr", "#", "begin block if instance? load-patch make method next-method object-class print quotient signal", api.ErrReserve}, {"expr", "a . #", "", api.ErrReserve}, {"expr", "f ( #", "begin block if instance? load-patch make method next-method object-class print quotient signal", api.ErrReserve}, {"expr", "begin #", "begin block if instance? load-patch make method next-method object-class print quotient signal let local end", api.ErrReserve},
		{"expr", "begin let #", "handler", api.ErrReserve}, {"expr", "begin local method #", "", api.ErrReserve}, {"expr", "method ( #", "", api.ErrReserve}, {"expr", "method ( x , #", "", api.ErrReserve}, {"expr", "block ( #", "", api.ErrReserve},
		{"type", "#", "limited singleton subclass type-union", api.ErrReserve}, {"type", "subclass ( #", "", api.ErrReserve}, {"type", "type-union ( #", "limited singleton subclass type-union", api.ErrReserve},
		{"source", "library #", "", api.ErrReserve}, {"source", "patch #", "", api.ErrReserve}, {"source", "library a ; use #", "", api.ErrReserve}, {"source", "library a ; use b , prefix: #", "", api.ErrReserve}, {"source", "library a ; use b , import: { #", "", api.ErrReserve}, {"source", "library a ; use b , import: { x => #", "", api.ErrReserve}, {"source", "library a ; export #", "", api.ErrReserve}, {"source", "library a ; export x , #", "", api.ErrReserve},
		{"source", "library a ; define class #", "", api.ErrReserve}, {"source", "library a ; define class c ( #", "", api.ErrReserve}, {"source", "library a ; define class c ( b , #", "", api.ErrReserve}, {"source", "library a ; define class c ( b ) slot #", "", api.ErrReserve}, {"source", "library a ; define generic #", "", api.ErrReserve}, {"source", "library a ; define generic f ( #", "", api.ErrReserve}, {"source", "library a ; define method #", "", api.ErrReserve}, {"source", "library a ; define sealed domain #", "", api.ErrReserve}, {"source", "library a ; define constant #", "", api.ErrReserve},
		{"source", "library a ; #", "begin block if instance? load-patch make method next-method object-class print quotient signal use export define", api.ErrReserve}, {"source", "library a ; define constant x = 1 ; #", "begin block if instance? load-patch make method next-method object-class print quotient signal define", api.ErrReserve},
		{"source", "#", "library patch", api.ErrParse}, {"source", "library a #", "", api.ErrParse}, {"source", "library a ; define #", "abstract sealed class generic method constant", api.ErrParse}, {"source", "library a ; define sealed #", "class generic method domain", api.ErrParse}, {"source", "library a ; define abstract #", "sealed class", api.ErrParse}, {"source", "library a ; define class c ( b ) #", "class each-subclass virtual slot end", api.ErrParse},
		{"expr", "a #", "", api.ErrParse}, {"expr", "begin a #", "end", api.ErrParse}, {"expr", "f #", "", api.ErrParse}, {"expr", "method #", "", api.ErrParse}, {"expr", "method ( x == #", "", api.ErrParse}, {"expr", "begin local #", "method", api.ErrParse}, {"expr", "if ( a ) b #", "else elseif end", api.ErrParse}, {"expr", "block ( ) a #", "cleanup end", api.ErrParse}, {"type", "limited ( #", "", api.ErrParse}, {"type", "singleton ( #", "", api.ErrParse}, {"expr", "make ( a , #", "", api.ErrParse},
	} {
		for _, w := range reservedWords {
			l := toks(strings.ReplaceAll(x.text, "#", w))
			last := len(l) - 1
			at, e, _ := parsed(x.start, l)
			if let := slices.Contains(strings.Fields(x.unless), w); let && at <= last && e != api.OK || !let && (at != last || e != x.want) {
				t.Errorf("%s %q = %d at %d; expected %d at %d", x.start, lex.Join(l), e, at, x.want, last)
			}
		}
	}
	for _, w := range reservedWords {
		if !IsReserved(w) || IsReserved(w+"x") || IsReserved(w[1:]+"-") || IsReserved(w+"@l") || IsReserved(w+":") {
			t.Errorf("IsReserved is not right around %q", w)
		}
	}
	for _, s := range []string{"", " ", "x", "let let", "Let", "init-keyword", "init-value", "elsif", "object", "<object>", "%|", "not", "class-of", "prefix:"} {
		if IsReserved(s) {
			t.Errorf("IsReserved(%q)", s)
		}
	}
}
