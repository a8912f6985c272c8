package lex

import (
	"math"
	"math/rand"
	"slices"
	"strings"
	"testing"

	"skerry/api"
)

// show writes the tokens of a text, each as a letter for its kind, and its text.
func show(l []api.Token) string {
	var b strings.Builder
	for i, t := range l {
		if i > 0 {
			b.WriteByte(' ')
		}
		b.WriteByte("?nikhsp"[t.Kind])
		b.WriteString(t.Text)
	}
	return b.String()
}

func nested(n int) string {
	return strings.Repeat("/*", n) + strings.Repeat("*/", n)
}

// P1.1, and the lexical grammar

func TestPieces(t *testing.T) {
	for _, x := range []struct {
		text string
		want []api.Piece
	}{
		{"", nil},
		{"a /* b */ c", []api.Piece{{Kind: api.TkName, At: 0, Len: 1}, {Kind: api.PcBlank, At: 1, Len: 1}, {Kind: api.PcComment, At: 2, Len: 7}, {Kind: api.PcBlank, At: 9, Len: 1}, {Kind: api.TkName, At: 10, Len: 1}}},
		{" \t\r\n1", []api.Piece{{Kind: api.PcBlank, At: 0, Len: 4}, {Kind: api.TkNum, At: 4, Len: 1}}},
		{"//", []api.Piece{{Kind: api.PcComment, At: 0, Len: 2}}},
		{"// x\n;", []api.Piece{{Kind: api.PcComment, At: 0, Len: 4}, {Kind: api.PcBlank, At: 4, Len: 1}, {Kind: api.TkSign, At: 5, Len: 1}}},
		{"// /* x\r\n//", []api.Piece{{Kind: api.PcComment, At: 0, Len: 8}, {Kind: api.PcBlank, At: 8, Len: 1}, {Kind: api.PcComment, At: 9, Len: 2}}},
		{"/**//***/", []api.Piece{{Kind: api.PcComment, At: 0, Len: 4}, {Kind: api.PcComment, At: 4, Len: 5}}},
		{"/*/**/*/a", []api.Piece{{Kind: api.PcComment, At: 0, Len: 8}, {Kind: api.TkName, At: 8, Len: 1}}},
		{"/* // */a", []api.Piece{{Kind: api.PcComment, At: 0, Len: 8}, {Kind: api.TkName, At: 8, Len: 1}}},
		{"/*\xff\x00\"#*/", []api.Piece{{Kind: api.PcComment, At: 0, Len: 8}}},
		{"x:#t)?y", []api.Piece{{Kind: api.TkKey, At: 0, Len: 2}, {Kind: api.TkHash, At: 2, Len: 2}, {Kind: api.TkSign, At: 4, Len: 1}, {Kind: api.TkPat, At: 5, Len: 2}}},
	} {
		l, at, e := Pieces(x.text)
		if e != api.OK || at != 0 || !slices.Equal(l, x.want) {
			t.Errorf("Pieces(%q) = %v, %d, %d; expected %v", x.text, l, at, e, x.want)
		}
	}
}

func TestRules(t *testing.T) {
	for _, x := range []struct{ text, want string }{
		{"define class <point> (<object>) end;", "ndefine nclass n<point> s( n<object> s) nend s;"},
		{"f(a - -3, b-2)", "nf s( na s- i-3 s, nb-2 s)"},
		{"x.size+1", "nx s. nsize+1"},
		{"a -3", "na s- i3"},
		{"make(c, x: 1)", "nmake s( nc s, kx: i1 s)"},
		{"x::<integer>", "nx s:: n<integer>"},
		{"?x:name => ?x", "p?x:name s=> p?x"},
		// names end with a letter, a digit or another byte of F, and a name begins ahead of all else
		{"a+", "na s+"}, {"a+-/=", "na s+ s- s/ s="}, {"a+b", "na+b"}, {"a==b", "na==b"}, {"a/=", "na s/ s="},
		{"<a", "n<a"}, {"<=a", "n<=a"}, {"<=", "s<="}, {"<1", "s< i1"}, {"<1a>", "n<1a>"}, {"<a>-", "n<a> s-"}, {"*a*", "n*a*"}, {"*1", "s* i1"},
		{"$a", "n$a"}, {"%a", "n%a"}, {"_a", "n_a"}, {"&a", "s& na"}, {"|a", "s| na"}, {"~a", "s~ na"}, {">a", "s> na"}, {"a!b?c~", "na!b?c~"},
		{"a//b", "na//b"}, {"a/*b*/", "na/*b* s/"}, {"a/**/", "na/** s/"}, {"a //b", "na"}, {"<//a", "n<//a"},
		// qualified names
		{"x@l", "nx@l"}, {"x@l-2-", "nx@l-2-"}, {"x@2", "nx@2"}, {"<x>@l", "n<x>@l"}, {"x@l+y", "nx@l s+ ny"}, {"x@l.y", "nx@l s. ny"},
		// keywords, and a colon ahead of : or =
		{"x:", "kx:"}, {"x: :=", "kx: s:="}, {"x:=1", "nx s:= i1"}, {"x::y", "nx s:: ny"}, {"x:y", "kx: ny"}, {"<x>:1", "k<x>: i1"}, {"x:-1", "kx: i-1"},
		// pattern variables, and a colon ahead of : or =
		{"?x", "p?x"}, {"?<x>:b", "p?<x>:b"}, {"?x::y", "p?x s:: ny"}, {"?x:=y", "p?x s:= ny"}, {"?x:y:=z", "p?x:y s:= nz"}, {"??x", "s? p?x"}, {"?1", "s? i1"}, {"? x", "s? nx"}, {"?<", "s? s<"},
		// integers
		{"0 7 10", "i0 i7 i10"}, {"3<4", "i3 s< i4"}, {"3%a", "i3 n%a"}, {"3.4", "i3 s. i4"}, {"3+4", "i3 s+ i4"}, {"3*4", "i3 s* i4"}, {"3=4", "i3 s= i4"},
		{"9223372036854775807", "i9223372036854775807"}, {"-9223372036854775808", "i-9223372036854775808"}, {"a -9223372036854775807", "na s- i9223372036854775807"},
		{"a -0", "na s- i0"},
		// hash words
		{"#t #f", "h#t h#f"}, {"#t)", "h#t s)"}, {"#t.x", "h#t s. nx"}, {"#f#t", "h#f h#t"},
		// signs: the longer one of two that begin with the same byte
		{"( ) [ ] { } , ; . = < > + - * / & | ~ ?", "s( s) s[ s] s{ s} s, s; s. s= s< s> s+ s- s* s/ s& s| s~ s?"},
		{":= :: => == <= >=", "s:= s:: s=> s== s<= s>="}, {"===", "s== s="}, {"==>", "s== s>"}, {"<=>", "s<= s>"}, {":::=", "s:: s:="}, {"=>=", "s=> s="}, {"=:=", "s= s:="},
	} {
		l, at, e := Scan(x.text)
		if got := show(l); e != api.OK || at != 0 || got != x.want {
			t.Errorf("Scan(%q) = %q, %d, %d; expected %q", x.text, got, at, e, x.want)
		}
	}
}

func TestMinus(t *testing.T) {
	for _, x := range []struct{ text, want string }{
		{"-3", "i-3"}, {" -3", "i-3"}, {"/**/-3", "i-3"}, {"--3", "s- i-3"}, {"- -3", "s- i-3"}, {"-a", "s- na"}, {"- 3", "s- i3"},
		{"a -3", "na s- i3"}, {"a@l -3", "na@l s- i3"}, {"a@l-3", "na@l-3"}, {"a-3", "na-3"}, {")/**/-3", "s) s- i3"}, {"a /**/ -3", "na s- i3"}, {"a //\n-3", "na s- i3"},
		{"2-3", "i2 s- i3"}, {"2 -3", "i2 s- i3"}, {"-2-3", "i-2 s- i3"}, {"#t -3", "h#t s- i3"}, {")-3", "s) s- i3"}, {"] -3", "s] s- i3"},
		{"}-3", "s} i-3"}, {"(-3", "s( i-3"}, {"[-3", "s[ i-3"}, {"{-3", "s{ i-3"}, {",-3", "s, i-3"}, {";-3", "s; i-3"}, {".-3", "s. i-3"}, {"=-3", "s= i-3"},
		{"< -3", "s< i-3"}, {"+-3", "s+ i-3"}, {"*-3", "s* i-3"}, {"/-3", "s/ i-3"}, {"& -3", "s& i-3"}, {"? -3", "s? i-3"}, {":=-3", "s:= i-3"}, {"=>-3", "s=> i-3"},
		{"x: -3", "kx: i-3"}, {"x:-3", "kx: i-3"}, {"?x -3", "p?x i-3"}, {"?x:y -3", "p?x:y i-3"}, {"1 - -3", "i1 s- i-3"},
	} {
		l, at, e := Scan(x.text)
		if got := show(l); e != api.OK || at != 0 || got != x.want {
			t.Errorf("Scan(%q) = %q, %d, %d; expected %q", x.text, got, at, e, x.want)
		}
	}
}

func TestErrors(t *testing.T) {
	name := strings.Repeat("n", api.MaxName)
	for _, x := range []struct {
		text string
		at   int
		want api.Errno
	}{
		{"/*", 0, api.ErrComment}, {"a /* ", 2, api.ErrComment}, {"/*/", 0, api.ErrComment}, {"/* /* */", 0, api.ErrComment}, {"/**/ /* *", 5, api.ErrComment}, {"/* \" 007", 0, api.ErrComment},
		{" " + nested(101), 1, api.ErrDeep}, {strings.Repeat("/*", 101), 0, api.ErrDeep}, {strings.Repeat("/*", 100), 0, api.ErrComment}, {"/*" + strings.Repeat(nested(99), 3) + nested(100) + "*/", 0, api.ErrDeep},
		{"007", 0, api.ErrDigit}, {"00", 0, api.ErrDigit}, {"-0", 0, api.ErrDigit}, {"-01", 0, api.ErrDigit}, {"a 01", 2, api.ErrDigit}, {"a -01", 3, api.ErrDigit},
		{"9223372036854775808", 0, api.ErrDigit}, {"-9223372036854775809", 0, api.ErrDigit}, {"a -9223372036854775808", 3, api.ErrDigit}, {"1 99999999999999999999", 2, api.ErrDigit},
		{"3x", 0, api.ErrDigit}, {"3_", 0, api.ErrDigit}, {"3?", 0, api.ErrDigit}, {"3!", 0, api.ErrDigit}, {"3$", 0, api.ErrDigit}, {"(-3x", 1, api.ErrDigit}, {"a -3x", 3, api.ErrDigit},
		{strings.Repeat("1", 99), 0, api.ErrDigit}, {strings.Repeat("1", 100), 0, api.ErrDigit}, {strings.Repeat("1", 300), 0, api.ErrDigit},
		{"#", 0, api.ErrHash}, {"#true", 0, api.ErrHash}, {"a #x", 2, api.ErrHash}, {"##t", 0, api.ErrHash}, {"#T", 0, api.ErrHash}, {"#t1", 0, api.ErrHash}, {"#t-1", 0, api.ErrHash}, {"#f=", 0, api.ErrHash}, {"#f/**/", 0, api.ErrHash}, {"#t?x", 0, api.ErrHash},
		{name + "n", 0, api.ErrLong}, {" " + name + ":", 1, api.ErrLong}, {"?" + name, 0, api.ErrLong}, {"?a:" + name, 0, api.ErrLong}, {"a@" + name, 0, api.ErrLong},
		{"\"", 0, api.ErrByte}, {"a \"", 2, api.ErrByte}, {"A", 0, api.ErrByte}, {"aB", 1, api.ErrByte}, {"!", 0, api.ErrByte}, {"^", 0, api.ErrByte}, {"$", 0, api.ErrByte}, {"%", 0, api.ErrByte}, {"_1", 0, api.ErrByte}, {"@", 0, api.ErrByte},
		{":", 0, api.ErrByte}, {"a :", 2, api.ErrByte}, {"a@b:", 3, api.ErrByte}, {"?a:", 2, api.ErrByte}, {"x@", 1, api.ErrByte}, {"x@-l", 1, api.ErrByte}, {"x@l@m", 3, api.ErrByte}, {"a+@l", 2, api.ErrByte}, {"?x@l", 2, api.ErrByte}, {"\v", 0, api.ErrByte}, {"\f", 0, api.ErrByte}, {"a\x00", 1, api.ErrByte}, {"\xc3\xa4", 0, api.ErrByte}, {"'", 0, api.ErrByte}, {"\\", 0, api.ErrByte},
		// the first one from the left
		{"\" 007", 0, api.ErrByte}, {"007 \"", 0, api.ErrDigit}, {"a # /*", 2, api.ErrHash},
	} {
		l, at, e := Pieces(x.text)
		if len(l) != 0 || at != x.at || e != x.want {
			t.Errorf("Pieces(%q) = %v, %d, %d; expected the error %d at %d", x.text, l, at, e, x.want, x.at)
		}
		m, at, e := Scan(x.text)
		if len(m) != 0 || at != x.at || e != x.want {
			t.Errorf("Scan(%q) = %v, %d, %d; expected the error %d at %d", x.text, m, at, e, x.want, x.at)
		}
	}
}

func TestLimits(t *testing.T) {
	name := strings.Repeat("n", api.MaxName)
	signs := strings.Repeat("(", api.MaxTokens)
	for _, x := range []struct {
		what, text string
		at         int
		want       api.Errno
	}{
		{"MaxText", strings.Repeat(" ", api.MaxText), 0, api.OK},
		{"MaxText and 1", strings.Repeat(" ", api.MaxText+1), 0, api.ErrLong},
		{"MaxText and 1, of errors", strings.Repeat("\"", api.MaxText+1), 0, api.ErrLong},
		{"MaxName of a name", name, 0, api.OK},
		{"MaxName and 1 of a name", "(" + name + "n", 1, api.ErrLong},
		{"MaxName of a qualified name", name[:20] + "@" + name[:19], 0, api.OK},
		{"MaxName and 1 of a qualified name", name[:20] + "@" + name[:20], 0, api.ErrLong},
		{"MaxName of a keyword", name[1:] + ":", 0, api.OK},
		{"MaxName and 1 of a keyword", name + ":", 0, api.ErrLong},
		{"MaxName ahead of ::", name + "::", 0, api.OK},
		{"MaxName of a pattern variable", "?" + name[1:], 0, api.OK},
		{"MaxName and 1 of a pattern variable", "?" + name, 0, api.ErrLong},
		{"MaxName of a pattern variable with a kind", "?" + name[:30] + ":" + name[:8], 0, api.OK},
		{"MaxName and 1 of a pattern variable with a kind", "?" + name[:30] + ":" + name[:9], 0, api.ErrLong},
		{"MaxTokens", signs, 0, api.OK},
		{"MaxTokens with gaps", " " + signs + " //", 0, api.OK},
		{"MaxTokens and 1", " " + signs + " )", api.MaxTokens + 2, api.ErrLong},
		{"another error at the token MaxTokens + 1", signs + "\"", api.MaxTokens, api.ErrByte},
		{"digits at the token MaxTokens + 1", signs + "00", api.MaxTokens, api.ErrDigit},
		{"an error behind the token MaxTokens + 1", signs + ")\"", api.MaxTokens, api.ErrLong},
		{"MaxDeep", nested(api.MaxDeep), 0, api.OK},
		{"MaxDeep, again", "a " + nested(api.MaxDeep) + nested(api.MaxDeep), 0, api.OK},
		{"MaxDeep and 1", "a " + nested(api.MaxDeep+1), 2, api.ErrDeep},
		{"MaxDeep and 1 on a line", "//" + nested(api.MaxDeep+1), 0, api.OK},
		{"MaxReach to a name's letter", "<" + strings.Repeat("=", api.MaxReach-2) + "a", 0, api.ErrLong},
		{"MaxReach and 1 to a name's letter", "<" + strings.Repeat("=", api.MaxReach-1) + "a", 0, api.OK},
		{"MaxReach to a name's end", "a" + strings.Repeat("+", api.MaxReach-2) + "b", 0, api.ErrLong},
		{"MaxReach and 1 to a name's end", "a" + strings.Repeat("+", api.MaxReach-1) + "b", 0, api.OK},
		{"MaxReach to a pattern variable's letter", "?<" + strings.Repeat("=", api.MaxReach-3) + "a", 0, api.ErrLong},
		{"MaxReach and 1 to a pattern variable's letter", "?<" + strings.Repeat("=", api.MaxReach-2) + "a", 1, api.ErrLong},
		{"MaxReach of blanks and more", "a" + strings.Repeat(" ", 500) + "a", 0, api.OK},
		{"MaxReach of comments and more", "/*" + strings.Repeat("\"", 500) + "*/ //" + strings.Repeat("#", 500) + "\n", 0, api.OK},
	} {
		if _, at, e := Pieces(x.text); at != x.at || e != x.want {
			t.Errorf("%s: %d at %d; expected %d at %d", x.what, e, at, x.want, x.at)
		}
	}
}

func TestMaxReach(t *testing.T) {
	for _, x := range []struct{ text, want string }{
		{"<" + strings.Repeat("=", 99) + "a", "s<=" + strings.Repeat(" s==", 49) + " na"},
		{"a" + strings.Repeat("+", 99) + "b", "na" + strings.Repeat(" s+", 99) + " nb"},
		{"?<" + strings.Repeat("=", 99) + "a", "s? s<=" + strings.Repeat(" s==", 49) + " na"},
	} {
		l, _, e := Scan(x.text)
		if got := show(l); got != x.want {
			t.Errorf("Scan(%q) = %q, %d; expected %q", x.text, got, e, x.want)
		}
	}
}

// P1.2

func TestScan(t *testing.T) {
	l, at, e := Scan(" a@l /* b */ -12\n#f\tx: ?y:z(12")
	want := []api.Token{
		{Kind: api.TkName, Text: "a@l", At: 1},
		{Kind: api.TkSign, Text: "-", At: 13},
		{Kind: api.TkNum, Text: "12", Num: 12, At: 14},
		{Kind: api.TkHash, Text: "#f", At: 17},
		{Kind: api.TkKey, Text: "x:", At: 20},
		{Kind: api.TkPat, Text: "?y:z", At: 23},
		{Kind: api.TkSign, Text: "(", At: 27},
		{Kind: api.TkNum, Text: "12", Num: 12, At: 28},
	}
	if e != api.OK || at != 0 || !slices.Equal(l, want) {
		t.Errorf("Scan = %v, %d, %d; expected %v", l, at, e, want)
	}
	for text, num := range map[string]int{"-9223372036854775808": math.MinInt, "9223372036854775807": math.MaxInt, "-7": -7, "0": 0} {
		if l, _, e := Scan(text); e != api.OK || len(l) != 1 || l[0].Num != num {
			t.Errorf("Scan(%q) = %v, %d; expected the integer %d", text, l, e, num)
		}
	}
	if l, at, e := Scan(" // nothing"); len(l) != 0 || at != 0 || e != api.OK {
		t.Errorf("Scan of gaps = %v, %d, %d", l, at, e)
	}
	if l, at, e := Scan(strings.Repeat("a", api.MaxText+1)); len(l) != 0 || at != 0 || e != api.ErrLong {
		t.Errorf("Scan of a text that is too long = %v, %d, %d", l, at, e)
	}
}

// P1.4

func TestKind(t *testing.T) {
	name := strings.Repeat("n", api.MaxName)
	for _, x := range []struct {
		s    string
		want int
	}{
		{"a", api.TkName}, {"a@l", api.TkName}, {"<a>", api.TkName}, {name, api.TkName}, {"define", api.TkName},
		{"0", api.TkNum}, {"-1", api.TkNum}, {"9223372036854775807", api.TkNum}, {"-9223372036854775808", api.TkNum},
		{"a:", api.TkKey}, {"#t", api.TkHash}, {"#f", api.TkHash}, {"-", api.TkSign}, {"::", api.TkSign}, {"?", api.TkSign}, {"?a", api.TkPat}, {"?a:b", api.TkPat},
		{"", 0}, {" ", 0}, {"//", 0}, {"/**/", 0}, {"/*", 0}, {" a", 0}, {"a ", 0}, {"a b", 0}, {"a+", 0}, {"a@", 0}, {"a@b@c", 0}, {"a@b:", 0}, {":", 0}, {"!", 0}, {"#", 0}, {"#true", 0},
		{"007", 0}, {"-0", 0}, {"3x", 0}, {"+1", 0}, {"1_0", 0}, {"9223372036854775808", 0}, {"-9223372036854775809", 0}, {name + "n", 0}, {"?a:", 0}, {"?a:b:c", 0}, {"a\x00", 0}, {"\xff", 0},
		{strings.Repeat("n", 3*api.MaxText), 0}, {strings.Repeat(" ", 3*api.MaxText), 0},
	} {
		if got := Kind(x.s); got != x.want {
			t.Errorf("Kind(%q) = %d; expected %d", x.s, got, x.want)
		}
		if got := IsName(x.s); got != (x.want == api.TkName) {
			t.Errorf("IsName(%q) = %v", x.s, got)
		}
		if got := IsPlain(x.s); got != (x.want == api.TkName && !strings.Contains(x.s, "@")) {
			t.Errorf("IsPlain(%q) = %v", x.s, got)
		}
	}
}

// A string is one token if it has one piece.
func TestKindByChance(t *testing.T) {
	r := rand.New(rand.NewSource(10))
	for range 20000 {
		s := chance(r, 3)
		want := 0
		if l, _, e := Pieces(s); e == api.OK && len(l) == 1 && l[0].Kind <= api.TkPat {
			want = l[0].Kind
		}
		if got := Kind(s); got != want {
			t.Fatalf("Kind(%q) = %d; expected %d", s, got, want)
		}
		if own, library := Split(s); own+library != strings.Replace(s, "@", "", 1) && own != s {
			t.Fatalf("Split(%q) = %q, %q", s, own, library)
		}
		if n, e := Number(s); (e == api.OK) != (want == api.TkNum) || e == api.OK && Digits(n) != s {
			t.Fatalf("Number(%q) = %d, %d", s, n, e)
		}
	}
}

func TestSplit(t *testing.T) {
	name := strings.Repeat("n", 39)
	for _, x := range [][3]string{
		{"area@shapes", "area", "shapes"}, {"<a>@2-b-", "<a>", "2-b-"}, {"a", "a", ""}, {"", "", ""}, {"@", "@", ""}, {"a@", "a@", ""}, {"@l", "@l", ""},
		{"a@b@c", "a@b@c", ""}, {"a@-b", "a@-b", ""}, {"a+@b", "a+@b", ""}, {"a@b:", "a@b:", ""}, {" a@b", " a@b", ""}, {"1@b", "1@b", ""}, {name + "@b", name + "@b", ""}, {name[1:] + "@b", name[1:], "b"},
	} {
		if a, b := Split(x[0]); a != x[1] || b != x[2] {
			t.Errorf("Split(%q) = %q, %q; expected %q, %q", x[0], a, b, x[1], x[2])
		}
	}
}

// P1.5

func TestNumber(t *testing.T) {
	for _, n := range []int{0, 1, -1, 10, 42, -42, 1000000, math.MaxInt, math.MinInt, math.MaxInt - 1, math.MinInt + 1} {
		s := Digits(n)
		if got, e := Number(s); e != api.OK || got != n {
			t.Errorf("Number(%q) = %d, %d; expected %d", s, got, e, n)
		}
	}
	for n, want := range map[int]string{0: "0", 7: "7", -7: "-7", math.MaxInt: "9223372036854775807", math.MinInt: "-9223372036854775808"} {
		if got := Digits(n); got != want {
			t.Errorf("Digits(%d) = %q", n, got)
		}
	}
	for _, s := range []string{"", "-", "-0", "00", "01", "+1", " 1", "1 ", "1 2", "- 1", "--1", "1_0", "0x1", "3x", "a", "#t", "9223372036854775808", "-9223372036854775809", strings.Repeat("1", 100)} {
		if n, e := Number(s); n != 0 || e != api.ErrDigit {
			t.Errorf("Number(%q) = %d, %d; expected ErrDigit", s, n, e)
		}
	}
}

// P1.6

func TestCheck(t *testing.T) {
	for _, x := range []struct {
		t    api.Token
		want api.Errno
	}{
		{api.Token{Kind: api.TkName, Text: "a@l"}, api.OK},
		{api.Token{Kind: api.TkName, Text: "a", At: math.MaxInt, Mark: math.MaxInt}, api.OK},
		{api.Token{Kind: api.TkNum, Text: "-12", Num: -12}, api.OK},
		{api.Token{Kind: api.TkNum, Text: "0"}, api.OK},
		{api.Token{Kind: api.TkKey, Text: "a:"}, api.OK},
		{api.Token{Kind: api.TkHash, Text: "#t"}, api.OK},
		{api.Token{Kind: api.TkSign, Text: ";"}, api.OK},
		{api.Token{Kind: api.TkPat, Text: "?a:b"}, api.OK},
		{api.Token{}, api.ErrToken},
		{api.Token{Text: "a"}, api.ErrToken},
		{api.Token{Text: "!"}, api.ErrToken},
		{api.Token{Kind: api.TkName}, api.ErrToken},
		{api.Token{Kind: api.TkKey, Text: "a"}, api.ErrToken},
		{api.Token{Kind: api.TkName, Text: "a", At: -1}, api.ErrToken},
		{api.Token{Kind: api.TkName, Text: "a", Mark: -1}, api.ErrToken},
		{api.Token{Kind: api.TkName, Text: "a", Num: 1}, api.ErrToken},
		{api.Token{Kind: api.TkName, Text: " a"}, api.ErrToken},
		{api.Token{Kind: api.TkName, Text: "a b"}, api.ErrToken},
		{api.Token{Kind: api.TkNum, Text: "12"}, api.ErrToken},
		{api.Token{Kind: api.TkNum, Text: "12", Num: -12}, api.ErrToken},
		{api.Token{Kind: api.TkNum, Text: "012", Num: 12}, api.ErrToken},
		{api.Token{Kind: api.PcBlank, Text: " "}, api.ErrToken},
		{api.Token{Kind: api.PcComment, Text: "//"}, api.ErrToken},
		{api.Token{Kind: math.MinInt, Text: "a"}, api.ErrToken},
	} {
		if got := Check(x.t); got != x.want {
			t.Errorf("Check(%v) = %d; expected %d", x.t, got, x.want)
		}
	}
}

func TestJoin(t *testing.T) {
	a, one := api.Token{Kind: api.TkName, Text: "a"}, api.Token{Kind: api.TkNum, Text: "-1", Num: -1, At: 3, Mark: 4}
	for _, x := range []struct {
		l    []api.Token
		want string
	}{
		{nil, ""}, {[]api.Token{}, ""}, {[]api.Token{a}, "a"}, {[]api.Token{a, one, a}, "a -1 a"}, {[]api.Token{a, {}}, ""}, {[]api.Token{{Kind: api.TkName, Text: "a", At: -1}, a}, ""},
	} {
		if got := Join(x.l); got != x.want {
			t.Errorf("Join(%v) = %q; expected %q", x.l, got, x.want)
		}
	}
}

func TestSame(t *testing.T) {
	a, b := api.Token{Kind: api.TkName, Text: "a"}, api.Token{Kind: api.TkName, Text: "a", At: 7, Mark: 8}
	for _, x := range []struct {
		a, b []api.Token
		want bool
	}{
		{nil, []api.Token{}, true}, {[]api.Token{a, b}, []api.Token{b, a}, true}, {[]api.Token{a}, []api.Token{a, a}, false}, {[]api.Token{a, a}, []api.Token{a}, false}, {nil, []api.Token{a}, false},
		{[]api.Token{a}, []api.Token{{Kind: api.TkName, Text: "b"}}, false}, {[]api.Token{a}, []api.Token{{Kind: api.TkKey, Text: "a"}}, false}, {[]api.Token{a}, []api.Token{{Kind: api.TkName, Text: "a", Num: 1}}, false},
		{[]api.Token{a, {Kind: api.TkName, Text: "b"}}, []api.Token{{Kind: api.TkName, Text: "b"}, a}, false},
	} {
		if got := Same(x.a, x.b); got != x.want {
			t.Errorf("Same(%v, %v) = %v", x.a, x.b, got)
		}
	}
}

func TestPattern(t *testing.T) {
	for _, x := range []struct {
		t          api.Token
		name, kind string
	}{
		{api.Token{Kind: api.TkPat, Text: "?x:name", At: 3, Mark: 4}, "x", "name"},
		{api.Token{Kind: api.TkPat, Text: "?<x>"}, "<x>", ""},
		{api.Token{Kind: api.TkPat, Text: "?x", At: -1}, "", ""},
		{api.Token{Kind: api.TkPat, Text: "?x", Num: 1}, "", ""},
		{api.Token{Kind: api.TkPat, Text: "?x:"}, "", ""},
		{api.Token{Kind: api.TkPat}, "", ""},
		{api.Token{Kind: api.TkPat, Text: "x"}, "", ""},
		{api.Token{Kind: api.TkName, Text: "?x"}, "", ""},
		{api.Token{Kind: api.TkName, Text: "x"}, "", ""},
		{api.Token{Kind: api.TkSign, Text: "?"}, "", ""},
		{api.Token{Kind: api.TkKey, Text: "x:"}, "", ""},
	} {
		if name, kind := Pattern(x.t); name != x.name || kind != x.kind {
			t.Errorf("Pattern(%v) = %q, %q; expected %q, %q", x.t, name, kind, x.name, x.kind)
		}
	}
}
