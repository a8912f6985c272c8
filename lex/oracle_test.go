package lex

import (
	"math/rand"
	"regexp"
	"slices"
	"strconv"
	"strings"
	"testing"

	"skerry/api"
)

// The chapter's rules once more, as regular expressions, to hold the cutter against.
const (
	reW = `[a-z0-9!$&*<>|^%_~?+\-/=]`
	reF = `[a-z0-9!$&*<>|^%_~?]`
	reN = `(?:[a-z](?:` + reW + `*` + reF + `)?|[<$%*_]` + reW + `*[a-z](?:` + reW + `*` + reF + `)?)`
)

type oracle struct {
	name, qualified, integer, minus, keyword, hash, sign, pattern, pair *regexp.Regexp
}

func longestOf(re string) *regexp.Regexp {
	r := regexp.MustCompile(`^(?:` + re + `)`)
	r.Longest()
	return r
}

func newOracle() oracle {
	return oracle{
		name:      longestOf(reN),
		qualified: longestOf(reN + `@[a-z0-9][a-z0-9\-]*`),
		integer:   longestOf(`[0-9]+`),
		minus:     longestOf(`-[0-9]+`),
		keyword:   longestOf(reN + `:`),
		hash:      longestOf(`#[tf]`),
		sign:      longestOf(`[()\[\]{},;.=<>+\-*/&|~?]|:=|::|=>|==|<=|>=`),
		pattern:   longestOf(`\?` + reN),
		pair:      longestOf(`\?` + reN + `:` + reN),
	}
}

// comment is the length of a comment with others within it that begins s, and the most that are open within each other.
func comment(s string) (length, depth int, closed bool) {
	i := 2
	for i < len(s) {
		if strings.HasPrefix(s[i:], "*/") {
			return i + 2, depth + 1, true
		}
		if !strings.HasPrefix(s[i:], "/*") {
			i++
			continue
		}
		n, d, ok := comment(s[i:])
		depth = max(depth, d)
		if !ok {
			return 0, depth + 1, false
		}
		i += n
	}
	return 0, depth + 1, false
}

// first returns the first piece of s, where the token ahead of it ends an operand or not.
func (o oracle) first(s string, operand bool) (kind, length int, e api.Errno) {
	switch {
	case strings.HasPrefix(s, "//"):
		line, _, _ := strings.Cut(s, "\n")
		return api.PcComment, len(line), api.OK
	case strings.HasPrefix(s, "/*"):
		n, depth, ok := comment(s)
		if depth > api.MaxDeep {
			return 0, 0, api.ErrDeep
		}
		if !ok {
			return 0, 0, api.ErrComment
		}
		return api.PcComment, n, api.OK
	case strings.ContainsRune(" \t\n\r", rune(s[0])):
		return api.PcBlank, len(s) - len(strings.TrimLeft(s, " \t\n\r")), api.OK
	}
	return o.token(s, operand)
}

func (o oracle) token(s string, operand bool) (kind, length int, e api.Errno) {
	w := s[:min(len(s), 100)]
	size := func(r *regexp.Regexp) int { return len(r.FindString(w)) }
	joined := func(n int) bool { return n < len(s) && (s[n] == ':' || s[n] == '=') }
	var lengths [7]int
	lengths[1] = max(size(o.name), size(o.qualified))
	if n := size(o.keyword); !joined(n) {
		lengths[3] = n
	}
	if lengths[1] == 0 {
		lengths[2] = size(o.integer)
		if !operand {
			lengths[2] = max(lengths[2], size(o.minus))
		}
		lengths[4] = size(o.hash)
		lengths[5] = size(o.sign)
		lengths[6] = max(size(o.pattern), size(o.pair))
	}
	for k, n := range lengths {
		if n > length {
			kind, length = k, n
		}
	}
	return o.judge(s, kind, length)
}

func (o oracle) judge(s string, kind, length int) (int, int, api.Errno) {
	t, behind := s[:length], s[length:]
	switch {
	case kind == 2:
		_, err := strconv.ParseInt(t, 10, 64)
		canonical := regexp.MustCompile(`^(0|-?[1-9][0-9]*)$`).MatchString(t)
		if err != nil || !canonical || regexp.MustCompile(`^[a-z_?!$]`).MatchString(behind) || length >= 100 {
			return 0, 0, api.ErrDigit
		}
	case s[0] == '#':
		if kind != 4 || regexp.MustCompile(`^`+reW).MatchString(behind) {
			return 0, 0, api.ErrHash
		}
	case kind == 1 || kind == 3 || kind == 6:
		if length > 40 {
			return 0, 0, api.ErrLong
		}
	case kind == 0:
		return 0, 0, api.ErrByte
	}
	return kind, length, api.OK
}

func (o oracle) pieces(text string) ([]api.Piece, int, api.Errno) {
	if len(text) > 20000 {
		return nil, 0, api.ErrLong
	}
	var l []api.Piece
	operand, tokens := false, 0
	for at := 0; at < len(text); {
		kind, n, e := o.first(text[at:], operand)
		if e == api.OK && kind <= 6 {
			tokens++
			if tokens > 6000 {
				e = api.ErrLong
			}
			operand = kind == 1 || kind == 2 || kind == 4 || text[at:at+n] == ")" || text[at:at+n] == "]"
		}
		if e != api.OK {
			return nil, at, e
		}
		l = append(l, api.Piece{Kind: kind, At: at, Len: n})
		at += n
	}
	return l, 0, api.OK
}

// compare holds Pieces of a text against the oracle.
func (o oracle) compare(t *testing.T, text string) {
	t.Helper()
	l, at, e := Pieces(text)
	wl, wat, we := o.pieces(text)
	if e != we || at != wat || !slices.Equal(l, wl) {
		t.Fatalf("Pieces(%q) = %v, %d, %d; expected %v, %d, %d", text, l, at, e, wl, wat, we)
	}
}

func TestPiecesOfAllShortTexts(t *testing.T) {
	o := newOracle()
	const alphabet = "a0<-+=:?@#t/*) \n."
	var extend func(s string, n int)
	extend = func(s string, n int) {
		o.compare(t, s)
		if n == 0 {
			return
		}
		for i := range alphabet {
			extend(s+alphabet[i:i+1], n-1)
		}
	}
	extend("", 4)
}

// morsels are parts of the texts that chance puts together.
func morsels() []string {
	return []string{
		"a", "b2", "x", "size", "<point>", "<", ">", "$c", "%", "*d*", "_", "empty?", "a-b", "f!", "a+b", "x@l", "<c>@l-2", "@",
		"0", "7", "42", "-1", "-", "007", "9223372036854775807", "9223372036854775808", "x:", ":", "key:", "?", "?x", "?x:name", "?x:",
		"#t", "#f", "#", "(", ")", "[", "]", "{", "}", ",", ";", ".", "=", "+", "*", "/", "&", "|", "~", ":=", "::", "=>", "==", "<=", ">=",
		" ", "\n", "\t", "\r ", " ", " ", " ", "/* b */", "// c\n", "/*", "*/", "//", "/* /* */ */", "!", "^", "\"", "A", "\x00", "\xff",
		strings.Repeat("=", 97), strings.Repeat("+", 98), strings.Repeat("n", 39), strings.Repeat("q", 20), strings.Repeat("<", 60), strings.Repeat("1", 18),
	}
}

// chance returns a text of up to n morsels.
func chance(r *rand.Rand, n int) string {
	l := morsels()
	var b strings.Builder
	for range r.Intn(n + 1) {
		b.WriteString(l[r.Intn(len(l))])
	}
	return b.String()
}

// sound returns a text that can be cut: morsels are left out where they make an error.
func sound(r *rand.Rand, n int) string {
	l := morsels()
	text := ""
	for range r.Intn(n + 1) {
		more := text + l[r.Intn(len(l))]
		if _, _, e := Pieces(more); e == api.OK {
			text = more
		}
	}
	return text
}

func TestPiecesOfTextsByChance(t *testing.T) {
	o := newOracle()
	r := rand.New(rand.NewSource(1))
	for range 20000 {
		o.compare(t, chance(r, 6))
	}
	for range 2000 {
		o.compare(t, sound(r, 60))
	}
	for range 20000 {
		b := make([]byte, r.Intn(12))
		for i := range b {
			b[i] = byte(r.Intn(256))
		}
		o.compare(t, string(b))
	}
}
