package syntax

import (
	"slices"
	"strings"

	"skerry/api"
	"skerry/lex"
)

// The chapter's grammar, with blanks between its signs.
const grammarText = `
source   = ( "library" | "patch" ) NAME ";" { use ";" } [ "export" NAME { "," NAME } ";" ] { def ";" } [ expr [ ";" ] ]
use      = "use" NAME [ "," ( prefix: NAME | import: "{" item { "," item } "}" ) ]
item     = NAME [ "=>" NAME ]
def      = "define" ( class | generic | method | domain | "constant" NAME "=" expr )
class    = [ "abstract" ] [ "sealed" ] "class" NAME "(" NAME { "," NAME } ")" { slot ";" } "end"
slot     = [ "class" | "each-subclass" | "virtual" ] "slot" NAME [ "::" type ] { "," ( init-keyword: KEY | init-value: expr ) }
generic  = [ "sealed" ] "generic" NAME "(" [ NAME { "," NAME } ] ")"
method   = [ "sealed" ] "method" NAME params [ "=>" type ] body "end"
domain   = "sealed" "domain" NAME "(" [ type { "," type } ] ")"
params   = "(" [ param { "," param } ] ")"
param    = NAME [ "::" type | "==" ( INTEGER | #t | #f ) ]
type     = NAME | "limited" "(" INTEGER "," INTEGER ")" | "singleton" "(" ( INTEGER | #t | #f ) ")" | "subclass" "(" NAME ")" | "type-union" "(" [ type { "," type } ] ")"
body     = [ stmt { ";" stmt } [ ";" ] ]
stmt     = "let" NAME "=" expr | "let" "handler" type "=" expr | "local" "method" NAME params body "end" | expr
expr     = or [ ":=" expr ]
or       = comp { ( "&" | "|" ) comp }
comp     = sum { ( "=" | "==" | "<" | ">" | "<=" | ">=" ) sum }
sum      = prod { ( "+" | "-" ) prod }
prod     = unary { ( "*" | "/" ) unary }
unary    = ( "-" | "~" ) unary | call
call     = atom { "(" [ expr { "," expr } ] ")" | "." NAME }
atom     = INTEGER | #t | #f | NAME | "(" expr ")" | "begin" body "end" | "method" params body "end" | "if" "(" expr ")" body { "elseif" "(" expr ")" body } [ "else" body ] "end" | "block" "(" [ NAME ] ")" body [ "cleanup" body ] "end" | "next-method" "(" [ expr { "," expr } ] ")" | "make" "(" expr { "," KEY expr } ")" | "instance?" "(" expr "," type ")" | "load-patch" "(" INTEGER ")" | ( "print" | "signal" | "object-class" ) "(" expr ")" | "quotient" "(" expr "," expr ")"
`

// production is a symbol, and one of the lists of symbols for which it stands. Symbols that have no production are terminal.
type production struct {
	left  string
	right []string
}

// grammar is the chapter's grammar as productions alone.
type grammar struct {
	productions map[string][]production
	empty       map[string]bool // symbols that may stand for nothing
	fresh       int
}

func newGrammar() *grammar {
	g := &grammar{productions: map[string][]production{}, empty: map[string]bool{}}
	for _, l := range strings.Split(strings.TrimSpace(grammarText), "\n") {
		words := strings.Fields(l)
		g.choice(words[0], words[2:])
	}
	for again := true; again; {
		again = false
		for left, ps := range g.productions {
			for _, p := range ps {
				if !g.empty[left] && !slices.ContainsFunc(p.right, func(s string) bool { return !g.empty[s] }) {
					g.empty[left], again = true, true
				}
			}
		}
	}
	return g
}

// choice adds productions for words up to a closing bracket, and returns the words from there on.
func (g *grammar) choice(left string, words []string) []string {
	var right []string
	add := func() {
		g.productions[left] = append(g.productions[left], production{left, right})
		right = nil
	}
	for len(words) > 0 {
		w := words[0]
		words = words[1:]
		switch w {
		case "|":
			add()
			continue
		case ")", "]", "}":
			add()
			return words
		case "(", "[", "{":
			g.fresh++
			part := string(rune('0'+g.fresh)) + "part"
			words = g.choice(part, words)
			if w != "(" {
				g.productions[part] = append(g.productions[part], production{left: part})
			}
			if w == "{" {
				ps := g.productions[part]
				for i := range ps[:len(ps)-1] {
					ps[i].right = append(slices.Clone(ps[i].right), part)
				}
			}
			w = part
		}
		right = append(right, w)
	}
	add()
	return words
}

// item is a production of which as much as is ahead of dot was found, from the set with the index from on.
type item struct {
	left  string
	index int
	dot   int
	from  int
}

// chart is the sets of items ahead of each token.
type chart [][]item

func (g *grammar) right(x item) []string {
	return g.productions[x.left][x.index].right
}

// begin is the chart ahead of all tokens.
func (g *grammar) begin(start string) chart {
	c := chart{nil}
	for i := range g.productions[start] {
		c[0] = append(c[0], item{start, i, 0, 0})
	}
	return g.close(c)
}

// close adds to the last set what follows from it.
func (g *grammar) close(c chart) chart {
	last := len(c) - 1
	set := c[last]
	seen := map[item]bool{}
	add := func(x item) {
		if !seen[x] {
			seen[x] = true
			set = append(set, x)
		}
	}
	for _, x := range set {
		seen[x] = true
	}
	for i := 0; i < len(set); i++ {
		x := set[i]
		right := g.right(x)
		if x.dot == len(right) {
			if x.from < last {
				for _, y := range c[x.from] {
					if r := g.right(y); y.dot < len(r) && r[y.dot] == x.left {
						y.dot++
						add(y)
					}
				}
			}
			continue
		}
		next := right[x.dot]
		for k := range g.productions[next] {
			add(item{next, k, 0, last})
		}
		if g.empty[next] {
			x.dot++
			add(x)
		}
	}
	return append(c[:last:last], set)
}

// next is the chart behind a further token, nil if it cannot stand there.
func (g *grammar) next(c chart, t api.Token) chart {
	var set []item
	for _, x := range c[len(c)-1] {
		if right := g.right(x); x.dot < len(right) && g.productions[right[x.dot]] == nil && matches(right[x.dot], t) {
			x.dot++
			set = append(set, x)
		}
	}
	if set == nil {
		return nil
	}
	return g.close(append(c[:len(c):len(c)], set))
}

// ends tells whether the tokens of a chart are a start symbol.
func (g *grammar) ends(c chart, start string) bool {
	return slices.ContainsFunc(c[len(c)-1], func(x item) bool { return x.left == start && x.from == 0 && x.dot == len(g.right(x)) })
}

// demands tells whether a name may follow.
func (g *grammar) demands(c chart, symbol string) bool {
	return slices.ContainsFunc(c[len(c)-1], func(x item) bool { r := g.right(x); return x.dot < len(r) && r[x.dot] == symbol })
}

func matches(symbol string, t api.Token) bool {
	switch {
	case lex.Check(t) != api.OK:
		return false
	case symbol == "NAME":
		return t.Kind == api.TkName && !slices.Contains(reservedWords, t.Text)
	case symbol == "INTEGER":
		return t.Kind == api.TkNum
	case symbol == "KEY":
		return t.Kind == api.TkKey
	}
	return strings.Trim(symbol, `"`) == t.Text
}

// verdict is the error of tokens behind those of a chart, as far as the grammar alone tells it, and its index.
func (g *grammar) verdict(c chart, start string, rest []api.Token) (int, api.Errno) {
	for _, t := range rest {
		d := g.next(c, t)
		if d == nil {
			if lex.Check(t) == api.OK && slices.Contains(reservedWords, t.Text) && g.demands(c, "NAME") {
				return len(c) - 1, api.ErrReserve
			}
			return len(c) - 1, api.ErrParse
		}
		c = d
	}
	if !g.ends(c, start) {
		return len(c) - 1, api.ErrParse
	}
	return len(c) - 1, api.OK
}
