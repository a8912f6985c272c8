package lex

import (
	"math"
	"math/rand"
	"slices"
	"strings"
	"testing"

	"skerry/api"
)

// P1.3

func TestChange(t *testing.T) {
	for _, x := range []struct {
		text string
		s    api.Splice
		want string
		e    api.Errno
	}{
		{"abc", api.Splice{At: 1, Del: 1, Ins: "xy"}, "axyc", api.OK},
		{"abc", api.Splice{}, "abc", api.OK},
		{"abc", api.Splice{Ins: "x"}, "xabc", api.OK},
		{"abc", api.Splice{At: 3, Ins: "x"}, "abcx", api.OK},
		{"abc", api.Splice{Del: 3}, "", api.OK},
		{"abc", api.Splice{At: 2, Del: 1}, "ab", api.OK},
		{"", api.Splice{Ins: "\xff"}, "\xff", api.OK},
		{"abc", api.Splice{At: -1, Ins: "x"}, "", api.ErrArg},
		{"abc", api.Splice{At: 4}, "", api.ErrArg},
		{"abc", api.Splice{Del: -1}, "", api.ErrArg},
		{"abc", api.Splice{Del: 4}, "", api.ErrArg},
		{"abc", api.Splice{At: 2, Del: 2}, "", api.ErrArg},
		{"abc", api.Splice{At: 1, Del: math.MaxInt}, "", api.ErrArg},
		{"abc", api.Splice{At: math.MaxInt, Del: math.MaxInt}, "", api.ErrArg},
		{"abc", api.Splice{At: math.MinInt, Del: math.MinInt}, "", api.ErrArg},
		{"abc", api.Splice{At: 2, Del: -1}, "", api.ErrArg},
	} {
		if got, e := Change(x.text, x.s); got != x.want || e != x.e {
			t.Errorf("Change(%q, %v) = %q, %d; expected %q, %d", x.text, x.s, got, e, x.want, x.e)
		}
	}
	if s, e := Change(strings.Repeat("a", api.MaxText), api.Splice{Ins: "b"}); e != api.OK || len(s) != api.MaxText+1 {
		t.Errorf("Change knows no limit, but has %d", e)
	}
}

func TestUpdate(t *testing.T) {
	for _, x := range []struct {
		text string
		s    api.Splice
		want api.Kept
	}{
		{"a b c", api.Splice{At: 2, Del: 1, Ins: "dd"}, api.Kept{Front: 2, Back: 2}},
		{"a b c", api.Splice{}, api.Kept{Front: 5}},
		{"a b c", api.Splice{Ins: " "}, api.Kept{Back: 5}},
		{"a b c", api.Splice{At: 5, Ins: " d"}, api.Kept{Front: 5}},
		{"a b c", api.Splice{Del: 2}, api.Kept{Front: 3}},
		{"aa b c", api.Splice{Del: 3}, api.Kept{Back: 3}},
		{"a b c", api.Splice{At: 2, Del: 1, Ins: "d"}, api.Kept{Front: 5}},
		{"a b c", api.Splice{At: 3, Del: 2}, api.Kept{Front: 3}},
		{"a b c", api.Splice{Del: 5}, api.Kept{}},
		{"", api.Splice{Ins: "a"}, api.Kept{}},
		{"", api.Splice{}, api.Kept{}},
		{"((((", api.Splice{At: 1, Del: 1}, api.Kept{Front: 3}},
		{"((((", api.Splice{At: 1, Ins: "("}, api.Kept{Front: 4}},
		{"a /* b */ c", api.Splice{At: 2, Del: 2}, api.Kept{Front: 1, Back: 2}},
		{"( -3 )", api.Splice{Del: 1, Ins: "a"}, api.Kept{Front: 0, Back: 2}},
		{"f -3", api.Splice{At: 1, Ins: " :="}, api.Kept{Front: 2}},
		{"f -3", api.Splice{At: 1, Ins: ")"}, api.Kept{Front: 1, Back: 3}},
		{"f; -3", api.Splice{At: 1, Del: 1}, api.Kept{Front: 1}},
	} {
		l, _, e := Pieces(x.text)
		if e != api.OK {
			t.Fatalf("Pieces(%q) = %d", x.text, e)
		}
		changed, _ := Change(x.text, x.s)
		want, _, _ := Pieces(changed)
		m, k, at, e := Update(x.text, l, x.s)
		if e != api.OK || at != 0 || !slices.Equal(m, want) || k != x.want {
			t.Errorf("Update(%q, %v) = %v, %v, %d, %d; expected %v, %v", x.text, x.s, m, k, at, e, want, x.want)
		}
	}
}

func TestUpdateErrors(t *testing.T) {
	signs := strings.Repeat("(", api.MaxTokens)
	for _, x := range []struct {
		text  string
		other string // the text whose pieces are given
		s     api.Splice
		at    int
		want  api.Errno
	}{
		{"a b", "a b c", api.Splice{}, 0, api.ErrPieces},
		{"a b c", "a b", api.Splice{}, 0, api.ErrPieces},
		{"a b", "a 1", api.Splice{}, 0, api.ErrPieces},
		{"a b", "", api.Splice{At: -1}, 0, api.ErrPieces},
		{"\"", "", api.Splice{Del: 1}, 0, api.ErrPieces},
		{strings.Repeat(" ", api.MaxText+1), "", api.Splice{Del: 1}, 0, api.ErrPieces},
		{"a b", "a b", api.Splice{At: -1}, 0, api.ErrArg},
		{"a b", "a b", api.Splice{At: 4}, 0, api.ErrArg},
		{"a b", "a b", api.Splice{At: 2, Del: 2, Ins: "\""}, 0, api.ErrArg},
		{"a b", "a b", api.Splice{At: 2, Ins: "\""}, 2, api.ErrByte},
		{"a b", "a b", api.Splice{At: 1, Ins: " 00"}, 2, api.ErrDigit},
		{"a 1b", "", api.Splice{At: 1, Ins: " 00"}, 0, api.ErrPieces},
		{"( b", "( b", api.Splice{At: 1, Del: 1, Ins: "1"}, 1, api.ErrDigit},
		{"( b", "( b", api.Splice{At: 1, Ins: "/*"}, 1, api.ErrComment},
		{" ", " ", api.Splice{Ins: strings.Repeat(" ", api.MaxText)}, 0, api.ErrLong},
		{" ", " ", api.Splice{Ins: strings.Repeat("\"", api.MaxText)}, 0, api.ErrLong},
		{signs, signs, api.Splice{Ins: ","}, api.MaxTokens, api.ErrLong},
		{signs, signs, api.Splice{At: 5000, Ins: ", "}, api.MaxTokens + 1, api.ErrLong},
		{signs, signs, api.Splice{At: api.MaxTokens, Ins: " ,"}, api.MaxTokens + 1, api.ErrLong},
		{signs, signs, api.Splice{At: api.MaxTokens, Ins: " \""}, api.MaxTokens + 1, api.ErrByte},
	} {
		l, _, _ := Pieces(x.other)
		if m, k, at, e := Update(x.text, l, x.s); len(m) != 0 || k != (api.Kept{}) || at != x.at || e != x.want {
			t.Errorf("Update(%.20q, pieces of %.20q, %v) = %v, %v, %d, %d; expected %d at %d", x.text, x.other, x.s, m, k, at, e, x.want, x.at)
		}
	}
	wrong := []api.Piece{{Kind: math.MaxInt, At: math.MinInt, Len: math.MinInt}, {}}
	if _, _, _, e := Update("a b", wrong, api.Splice{}); e != api.ErrPieces {
		t.Errorf("Update with pieces of no text = %d", e)
	}
}

// anySplice returns a splice that is right for a text, more often than not a small one.
func anySplice(r *rand.Rand, text string) api.Splice {
	s := api.Splice{At: r.Intn(len(text) + 1), Ins: chance(r, 3)}
	s.Del = r.Intn(min(len(text)-s.At, 1+r.Intn(20)) + 1)
	switch r.Intn(6) {
	case 0:
		s.At, s.Del = 0, min(s.Del, len(text))
	case 1:
		s.At, s.Del = len(text), 0
	case 2:
		s.Ins = ""
	}
	return s
}

// greatest is what P1.3 says of Kept, by trying.
func greatest(l, m []api.Piece, shift int) api.Kept {
	var k api.Kept
	for n := range min(len(l), len(m)) + 1 {
		if slices.Equal(l[:n], m[:n]) {
			k.Front = n
		}
	}
	moved := slices.Clone(l)
	for i := range moved {
		moved[i].At += shift
	}
	for n := range min(len(l), len(m)) - k.Front + 1 {
		if slices.Equal(moved[len(l)-n:], m[len(m)-n:]) {
			k.Back = n
		}
	}
	return k
}

func TestUpdateByChance(t *testing.T) {
	r := rand.New(rand.NewSource(2))
	for range 3000 {
		text := sound(r, 40)
		l, _, _ := Pieces(text)
		given := slices.Clone(l)
		s := anySplice(r, text)
		changed, _ := Change(text, s)
		want, wat, we := Pieces(changed)
		m, k, at, e := Update(text, l, s)
		if e != we || at != wat || !slices.Equal(m, want) {
			t.Fatalf("Update(%q, %v) = %v, %d, %d; expected %v, %d, %d", text, s, m, at, e, want, wat, we)
		}
		if e == api.OK && k != greatest(l, m, len(changed)-len(text)) {
			t.Fatalf("Update(%q, %v) keeps %v of %v and %v", text, s, k, l, m)
		}
		if !slices.Equal(l, given) {
			t.Fatalf("Update(%q, %v) changes its argument", text, s)
		}
	}
}

// Only the pieces around a splice are cut again: kinds that are wrong elsewhere are taken as they are.
func TestRecutIsLocal(t *testing.T) {
	text := strings.Repeat("a ", 300)
	l, _, _ := Pieces(text)
	for i := range l {
		if l[i].Kind == api.TkName {
			l[i].Kind = api.TkNum
		}
	}
	m, _, e := recut(text, l, api.Splice{At: 300, Del: 1, Ins: "bb"}, text[:300]+"bb"+text[301:])
	if e != api.OK || len(m) != len(l) {
		t.Fatalf("recut = %d pieces, %d; expected %d", len(m), e, len(l))
	}
	anew := 0
	for _, p := range m {
		if p.Kind == api.TkName {
			anew++
		}
	}
	if anew == 0 || anew > 60 {
		t.Errorf("%d of %d tokens were cut again", anew, len(m)/2)
	}
}
