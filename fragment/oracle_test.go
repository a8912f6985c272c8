package fragment

import (
	"math/rand"
	"reflect"
	"slices"
	"strings"

	"skerry/api"
	"skerry/lex"
)

// tok is a valid token with a text.
func tok(text string) api.Token {
	t := api.Token{Kind: lex.Kind(text), Text: text}
	t.Num, _ = lex.Number(text)
	return t
}

// toks are the tokens of a text whose tokens have blanks between them.
func toks(text string) []api.Token {
	var l []api.Token
	for i, s := range strings.Fields(text) {
		t := tok(s)
		t.At = i
		l = append(l, t)
	}
	return l
}

// show writes a group as its opening, a colon if this is a word, its fragments, and a closing sign.
func show(l []api.Frag) string {
	var parts []string
	for _, f := range l {
		switch f.Open {
		case "":
			parts = append(parts, f.Tok.Text)
		case "(", "[", "{":
			parts = append(parts, f.Open+show(f.Kids)+map[string]string{"(": ")", "[": "]", "{": "}"}[f.Open])
		default:
			parts = append(parts, "<"+f.Open+":"+show(f.Kids)+">")
		}
	}
	return strings.Join(parts, " ")
}

// tidy is a list of fragments with nil for empty lists.
func tidy(l []api.Frag) []api.Frag {
	var m []api.Frag
	for _, f := range l {
		f.Kids = tidy(f.Kids)
		m = append(m, f)
	}
	return m
}

func identicalLists(a, b []api.Frag) bool {
	return reflect.DeepEqual(tidy(a), tidy(b))
}

// The chapter's rules once more, by recursion and without looking for speed, to hold Read against.
type oracle struct {
	tokens []api.Token
	words  []string
	fault  api.Errno
	at     int
}

func (o *oracle) name(i int, texts ...string) bool {
	return i < len(o.tokens) && o.tokens[i].Kind == api.TkName && slices.Contains(texts, o.tokens[i].Text)
}

func (o *oracle) stop(i int) bool {
	if i >= len(o.tokens) || o.name(i, "end") {
		return true
	}
	return o.tokens[i].Kind == api.TkSign && strings.Contains(";,)]}", o.tokens[i].Text)
}

func (o *oracle) refuse(i int, e api.Errno) (int, []api.Frag) {
	o.at, o.fault = i, e
	return i, nil
}

// dropped is how many tokens from i on are dropped behind a group.
func (o *oracle) dropped(i int, g api.Frag) int {
	if g.Open != "class" && g.Open != "method" && g.Open != "macro" {
		return 0
	}
	name := ""
	if len(g.Kids) > 0 && g.Kids[0].Open == "" && g.Kids[0].Tok.Kind == api.TkName {
		name = g.Kids[0].Tok.Text
	}
	for _, way := range [][]string{{g.Open}, {name}, {g.Open, name}} {
		fits := true
		for k, text := range way {
			fits = fits && o.name(i+k, text)
		}
		if fits && o.stop(i+len(way)) {
			return len(way)
		}
	}
	return 0
}

// list reads from i on what stands in a group with an opening at a depth. It returns the index of the closing token.
func (o *oracle) list(i, depth int, open string) (int, []api.Frag) {
	begin := i - 1
	var l []api.Frag
	skip := 0
	for ; i < len(o.tokens); i++ {
		t := o.tokens[i]
		if lex.Check(t) != api.OK {
			return o.refuse(i, api.ErrToken)
		}
		if skip > 0 {
			skip--
			continue
		}
		opens := strings.Contains("( [ {", t.Text)
		if o.name(i, Words()...) || o.name(i, o.words...) {
			opens = !(t.Text == "class" && o.name(i+1, "slot")) && !(open == "macro" && i == begin+1)
		}
		switch {
		case opens && depth == api.MaxDeep:
			return o.refuse(i, api.ErrDeep)
		case opens:
			end, kids := o.list(i+1, depth+1, t.Text)
			if o.fault != api.OK {
				return end, nil
			}
			l = append(l, api.Frag{Tok: t, Open: t.Text, Kids: kids})
			i = end
			skip = o.dropped(i+1, l[len(l)-1])
		case strings.Contains(") ] }", t.Text) || o.name(i, "end"):
			wants, sign := map[string]string{"": "", "(": ")", "[": "]", "{": "}"}[open]
			if !sign {
				wants = "end"
			}
			if t.Text != wants {
				return o.refuse(i, api.ErrStray)
			}
			return i, l
		default:
			l = append(l, api.Frag{Tok: t})
		}
	}
	if open != "" {
		return o.refuse(begin, api.ErrOpen)
	}
	return i, l
}

func oracleRead(l []api.Token, words []string) ([]api.Frag, int, api.Errno) {
	o := &oracle{tokens: l, words: words}
	_, f := o.list(0, 0, "")
	if o.fault != api.OK {
		return nil, o.at, o.fault
	}
	return f, 0, api.OK
}

// oracleFlat are the tokens of fragments, whatever their number and depth.
func oracleFlat(l []api.Frag) []api.Token {
	var flat []api.Token
	for _, f := range l {
		flat = append(flat, f.Tok)
		if f.Open == "" {
			continue
		}
		flat = append(flat, oracleFlat(f.Kids)...)
		t := tok("end")
		if i := strings.Index("([{", f.Open); i >= 0 {
			t = tok(")]}"[i : i+1])
		}
		t.At, t.Mark = f.Tok.At, f.Tok.Mark
		flat = append(flat, t)
	}
	return flat
}

// oracleCut is a list of fragments without its groups at a depth greater than most.
func oracleCut(l []api.Frag, most int) []api.Frag {
	var cut []api.Frag
	for _, f := range l {
		switch {
		case f.Open == "":
			cut = append(cut, f)
		case most > 0:
			cut = append(cut, api.Frag{Tok: f.Tok, Open: f.Open, Kids: oracleCut(f.Kids, most-1)})
		}
	}
	return cut
}

var vocabulary = strings.Fields("a b m while class method macro slot end begin if block define ( ) [ ] { } ; , . => 1 x: #t ?e m@l end end ( ) method macro class m")

// texts are the texts of tokens by chance: any ones, or such ones that groups are closed.
func texts(r *rand.Rand, n int) []string {
	if r.Intn(3) == 0 {
		l := make([]string, r.Intn(n+1))
		for i := range l {
			l[i] = vocabulary[r.Intn(len(vocabulary))]
		}
		return l
	}
	var l []string
	for range r.Intn(4) {
		l = append(l, part(r, n)...)
	}
	if r.Intn(6) == 0 && len(l) > 0 {
		i := r.Intn(len(l))
		l = slices.Replace(l, i, i+1, vocabulary[r.Intn(len(vocabulary))])
	}
	return l
}

// part is a token, or a group with what may be dropped behind it.
func part(r *rand.Rand, n int) []string {
	open := []string{"(", "[", "{", "begin", "if", "block", "while", "class", "method", "macro", "class", "method", "macro"}[r.Intn(13)]
	if n == 0 || r.Intn(3) == 0 {
		return []string{[]string{"a", "m", ";", ",", "slot", "1", "class slot", "x:"}[r.Intn(8)]}
	}
	var kids []string
	if open == "macro" && r.Intn(2) == 0 {
		kids = append(kids, []string{"while", "macro", "class", "m"}[r.Intn(4)])
	}
	for range r.Intn(4) {
		kids = append(kids, part(r, n/2)...)
	}
	end := "end"
	if i := strings.Index("([{", open); i >= 0 {
		end = ")]}"[i : i+1]
	}
	l := append(append([]string{open}, kids...), end)
	if end == "end" && r.Intn(2) == 0 {
		l = append(l, open)
	}
	if end == "end" && len(kids) > 0 && r.Intn(2) == 0 {
		l = append(l, kids[0])
	}
	if r.Intn(3) == 0 {
		l = append(l, []string{";", ",", "a", "end"}[r.Intn(4)])
	}
	return l
}

// tokensByChance are tokens by chance, with Ats and Marks; now and then one of them is not valid.
func tokensByChance(r *rand.Rand, n int) []api.Token {
	l := toks(strings.Join(texts(r, n), " "))
	for i := range l {
		l[i].At, l[i].Mark = r.Intn(50), r.Intn(3)
	}
	if r.Intn(12) == 0 && len(l) > 0 {
		i := r.Intn(len(l))
		switch r.Intn(5) {
		case 0:
			l[i].Kind = r.Intn(9)
		case 1:
			l[i].Num++
		case 2:
			l[i].Text = []string{"", "a b", "(]", "A", "007"}[r.Intn(5)]
		case 3:
			l[i].At = -1
		case 4:
			l[i].Mark = -1
		}
	}
	return l
}

// spoiled is a list of fragments in which one thing was changed by chance, in memory of its own.
func spoiled(r *rand.Rand, l []api.Frag) []api.Frag {
	m := tidy(l)
	list := &m
	for len(*list) > 0 {
		f := &(*list)[r.Intn(len(*list))]
		if len(f.Kids) > 0 && r.Intn(3) > 0 {
			list = &f.Kids
			continue
		}
		switch r.Intn(7) {
		case 0:
			f.Open = []string{"", "(", "[", "{", "if", "class", "macro", "a", "end", ")"}[r.Intn(10)]
		case 1:
			f.Tok = tok(vocabulary[r.Intn(len(vocabulary))])
		case 2:
			f.Kids = append(f.Kids, api.Frag{Tok: tok(vocabulary[r.Intn(len(vocabulary))])})
		case 3:
			f.Tok.Num++
		case 4:
			f.Tok.Mark--
		case 5:
			f.Tok.Kind = r.Intn(9)
		case 6:
			*f = api.Frag{Tok: tok("("), Open: "(", Kids: []api.Frag{*f}}
		}
		return m
	}
	return m
}
