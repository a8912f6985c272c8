package lex

import (
	"math/rand"
	"slices"
	"strings"
	"testing"

	"skerry/api"
)

// each calls f with many texts that can be cut, and their pieces.
func each(seed int64, times, size int, f func(text string, l []api.Piece)) {
	r := rand.New(rand.NewSource(seed))
	for range times {
		text := sound(r, size)
		l, _, _ := Pieces(text)
		f(text, l)
	}
}

func textOf(text string, p api.Piece) string {
	return text[p.At : p.At+p.Len]
}

// P1.7

func TestNothingIsLost(t *testing.T) {
	each(3, 3000, 30, func(text string, l []api.Piece) {
		end := 0
		for _, p := range l {
			if p.Len <= 0 || p.At != end {
				t.Fatalf("%q: the piece %v does not follow the offset %d", text, p, end)
			}
			end = p.At + p.Len
		}
		if end != len(text) {
			t.Fatalf("%q: the pieces end at %d", text, end)
		}
	})
}

// P1.8

func TestTokensAlone(t *testing.T) {
	each(4, 3000, 30, func(text string, l []api.Piece) {
		for _, p := range l {
			if p.Kind <= api.TkPat && Kind(textOf(text, p)) != p.Kind {
				t.Fatalf("%q: Kind of %q = %d; expected %d", text, textOf(text, p), Kind(textOf(text, p)), p.Kind)
			}
		}
		tokens, _, _ := Scan(text)
		for _, x := range tokens {
			if Check(x) != api.OK {
				t.Fatalf("%q: the token %v is not valid", text, x)
			}
		}
	})
}

func TestTokensJoined(t *testing.T) {
	r := rand.New(rand.NewSource(5))
	kinds := []string{"a", "<a>@b", "-1", "12", "-9223372036854775808", "x:", "#t", "(", ")", "]", "}", "-", "=", "==", "?", "?x", "?x:y", ":=", "::", "/", "*", "<"}
	for range 3000 {
		var l []api.Token
		for range r.Intn(20) {
			x := kinds[r.Intn(len(kinds))]
			last := ""
			if len(l) > 0 {
				last = l[len(l)-1].Text
			}
			behind := last == ")" || last == "]" || Kind(last) == api.TkName || Kind(last) == api.TkNum || Kind(last) == api.TkHash
			if behind && Kind(x) == api.TkNum && x[0] == '-' {
				continue
			}
			n, _ := Number(x)
			l = append(l, api.Token{Kind: Kind(x), Text: x, Num: n})
		}
		if m, at, e := Scan(Join(l)); e != api.OK || !Same(l, m) {
			t.Fatalf("Scan of Join %q = %v, %d, %d", Join(l), m, at, e)
		}
	}
}

// P1.9

func TestGaps(t *testing.T) {
	gaps := []string{" ", " /* \" /* */ */ ", " // 007\n "}
	each(6, 600, 20, func(text string, l []api.Piece) {
		tokens, _, _ := Scan(text)
		line := func(i int) bool { return l[i].Kind == api.PcComment && strings.HasPrefix(textOf(text, l[i]), "//") }
		for i, p := range l {
			for _, gap := range gaps {
				if p.Kind > api.TkPat && (i == 0 || !line(i-1)) {
					s := text[:p.At] + gap + text[p.At+p.Len:]
					if m, _, e := Scan(s); e != api.OK || !Same(tokens, m) {
						t.Fatalf("%q with %q in the place of %v: %v, %d", text, gap, p, m, e)
					}
				}
				if i+1 == len(l) || line(i) {
					continue
				}
				end := p.At + p.Len
				if m, _, e := Scan(text[:end] + gap + text[end:]); e != api.OK || !Same(tokens, m) {
					t.Fatalf("%q with %q behind %v: %v, %d", text, gap, p, m, e)
				}
			}
		}
	})
}

// P1.10

func TestLocal(t *testing.T) {
	r := rand.New(rand.NewSource(7))
	many := 0
	for range 500 {
		text := sound(r, 100)
		l, _, _ := Pieces(text)
		s := anySplice(r, text)
		_, k, _, e := Update(text, l, s)
		if e != api.OK {
			continue
		}
		for i, p := range l {
			if p.At+p.Len+api.MaxReach+1 < s.At {
				many++
				if i >= k.Front {
					t.Fatalf("Update(%q, %v) does not keep the piece %d, %v", text, s, i, p)
				}
			}
		}
	}
	if many == 0 {
		t.Error("no piece was ahead of a splice")
	}
}

// P1.11

func TestLongest(t *testing.T) {
	each(8, 3000, 30, func(text string, l []api.Piece) {
		for _, p := range l {
			end := p.At + p.Len
			if p.Kind > api.TkPat || end == len(text) || Kind(text[p.At:end+1]) == 0 {
				continue
			}
			b := text[end]
			colon := (p.Kind == api.TkName || p.Kind == api.TkPat) && b == ':'
			minus := textOf(text, p) == "-" && '0' <= b && b <= '9'
			if !colon && !minus {
				t.Fatalf("%q: %q is a longer token than %v", text, text[p.At:end+1], p)
			}
		}
	})
}

// P1.12

func TestUndone(t *testing.T) {
	r := rand.New(rand.NewSource(9))
	undone := 0
	for range 3000 {
		text := sound(r, 30)
		l, _, _ := Pieces(text)
		s := anySplice(r, text)
		m, _, _, e := Update(text, l, s)
		if e != api.OK {
			continue
		}
		changed, _ := Change(text, s)
		back := api.Splice{At: s.At, Del: len(s.Ins), Ins: text[s.At : s.At+s.Del]}
		if again, e := Change(changed, back); e != api.OK || again != text {
			t.Fatalf("Change(%q, %v) undone = %q, %d", text, s, again, e)
		}
		if again, _, _, e := Update(changed, m, back); e != api.OK || !slices.Equal(again, l) {
			t.Fatalf("Update(%q, %v) undone = %v, %d; expected %v", text, s, again, e, l)
		}
		undone++
	}
	if undone == 0 {
		t.Error("no splice was undone")
	}
}
