package syntax

import (
	"math"
	"math/rand"
	"slices"
	"strconv"
	"strings"

	"skerry/api"
)

// maker makes trees, and texts with what they have to be parsed as, by chance.
type maker struct {
	*rand.Rand
	marked bool // some of the tokens of texts have marks
	plain  bool // no variable of texts is one that a setter could be
	atoms  int  // of the text that is made
}

func newMaker(seed int64) *maker {
	return &maker{Rand: rand.New(rand.NewSource(seed))}
}

func (m *maker) pick(l ...string) string {
	return l[m.Intn(len(l))]
}

func (m *maker) integer() int {
	return []int{0, 1, -1, 3, -3, math.MaxInt, math.MinInt}[m.Intn(7)]
}

// Trees

func (m *maker) variable() string {
	return m.pick("x", "x", "y", "z", "f", "<a>", "x@l", "x@0", "x@1", "y@1", "x-setter", "x-setter@1", times(40, "a"))
}

func (m *maker) class() string {
	return m.pick("<a>", "<b>", "<object>", "c", "<a>@l")
}

func (m *maker) typ(depth int) api.Type {
	switch m.Intn(7) {
	case 0:
		t := api.Type{Kind: api.TyInt, Lo: m.integer(), Hi: m.integer()}
		t.Lo, t.Hi = min(t.Lo, t.Hi), max(t.Lo, t.Hi)
		return t
	case 1:
		return api.Type{Kind: api.TyBool, Lo: m.Intn(2)}
	case 2:
		return api.Type{Kind: api.TySub, Name: m.class()}
	case 3:
		t := api.Type{Kind: api.TyUnion}
		for range m.Intn(4) * min(depth, 1) {
			t.Args = append(t.Args, m.typ(depth-1))
		}
		return t
	}
	return class(m.class())
}

func (m *maker) params(depth int) []api.Param {
	var l []api.Param
	for range m.Intn(4) {
		name := m.variable()
		if !slices.ContainsFunc(l, func(p api.Param) bool { return p.Name == name }) {
			l = append(l, api.Param{Name: name, Type: m.typ(depth - 1)})
		}
	}
	return l
}

func (m *maker) exprs(n, depth int) []api.Expr {
	var l []api.Expr
	for range n {
		l = append(l, m.expr(depth-1))
	}
	return l
}

// expr makes a well-formed expression.
func (m *maker) expr(depth int) api.Expr {
	if depth <= 0 || m.Intn(6) == 0 {
		switch m.Intn(5) {
		case 0:
			return num(m.integer())
		case 1:
			return api.Expr{Kind: api.ExBool, Num: m.Intn(2)}
		case 2:
			return api.Expr{Kind: api.ExLoad, Num: m.Intn(4)}
		}
		return api.Expr{Kind: api.ExVar, Name: m.variable()}
	}
	e := api.Expr{Kind: api.ExCall + m.Intn(api.ExIs-api.ExCall+1)}
	switch e.Kind {
	case api.ExCall:
		e.Args = m.exprs(1+m.Intn(4), depth)
	case api.ExIf:
		e.Args = m.exprs(3, depth)
	case api.ExLet:
		return m.let(depth)
	case api.ExSeq:
		e.Args = m.exprs(2+m.Intn(3), depth)
	case api.ExFn:
		e.Params, e.Args = m.params(depth), m.exprs(1, depth)
	case api.ExBlock:
		e.Name, e.Args = m.pick("", m.variable()), m.exprs(1+m.Intn(2), depth)
	case api.ExHandle:
		e.Type, e.Args = m.typ(depth), m.exprs(2, depth)
	case api.ExNext:
		e.Args = m.exprs(m.Intn(4), depth)
	case api.ExMake:
		e.Keys = strings.Fields(numbered(m.Intn(4), m.pick("k#", "<#k>"), " "))
		e.Args = m.exprs(len(e.Keys)+1, depth)
	case api.ExPrim:
		e.Name = m.pick("+", "-", "*", "quotient", "<", "<=", ">", ">=", "=", "==", "not", "print", "signal", "class-of")
		n := 2
		if slices.Contains([]string{"not", "print", "signal", "class-of"}, e.Name) {
			n = 1
		}
		e.Args = m.exprs(n, depth)
	case api.ExIs:
		e.Type, e.Args = m.typ(depth), m.exprs(1, depth)
	default:
		return m.expr(depth)
	}
	return e
}

func (m *maker) let(depth int) api.Expr {
	e := api.Expr{Kind: api.ExLet, Name: m.variable(), Args: m.exprs(2, depth)}
	switch m.Intn(3) {
	case 0:
		e.Args[0] = api.Expr{Kind: api.ExFn, Name: m.pick(e.Name, ""), Params: m.params(depth), Args: m.exprs(1, depth-1)}
	case 1:
		return or(e.Args[0], e.Args[1])
	}
	return e
}

func or(a, b api.Expr) api.Expr {
	either := api.Expr{Kind: api.ExVar, Name: "%|"}
	return api.Expr{Kind: api.ExLet, Name: "%|", Args: []api.Expr{a, {Kind: api.ExIf, Args: []api.Expr{either, either, b}}}}
}

// source makes a well-formed source.
func (m *maker) source(depth int) api.Source {
	s := api.Source{Name: m.pick("a", "a-1", "b2"), Patch: m.Intn(4) == 0}
	for range m.Intn(5) {
		s.Defs = append(s.Defs, m.definition(depth))
	}
	if s.Patch {
		return s
	}
	for i := range m.Intn(4) {
		u := api.Use{Lib: "l" + strconv.Itoa(i), All: true, Prefix: m.pick("", "p_", "<p>")}
		if m.Intn(2) == 0 {
			u.All, u.Prefix = false, ""
			for range 1 + m.Intn(3) {
				u.Names = append(u.Names, api.Rename{From: m.pick("x", "<y>"), To: m.pick("x", "<y>")})
			}
		}
		s.Uses = append(s.Uses, u)
	}
	s.Exports = strings.Fields(numbered(m.Intn(3), m.pick("x#", "<x#>"), " "))
	s.Main = m.exprs(m.Intn(2), depth)
	return s
}

func (m *maker) definition(depth int) api.Def {
	d := api.Def{Kind: api.DfClass + m.Intn(5)}
	switch d.Kind {
	case api.DfClass:
		d.Class = api.ClassDef{Name: m.pick("<c>", "c"), Abstract: m.Intn(2) == 0, Sealed: m.Intn(2) == 0}
		for range 1 + m.Intn(3) {
			d.Class.Supers = append(d.Class.Supers, m.class())
		}
		for i := range m.Intn(4) {
			s := api.Slot{Name: "s" + strconv.Itoa(i), Type: m.typ(depth), Alloc: 1 + m.Intn(4)}
			if s.Alloc != api.SlVirt {
				s.Key = m.pick("", "k", "init-value", "end")
				s.Init = m.exprs(m.Intn(2), depth)
			}
			d.Class.Slots = append(d.Class.Slots, s)
		}
	case api.DfGeneric:
		d.Generic = api.GenericDef{Name: m.pick("f", "<f>"), Arity: m.Intn(7), Sealed: m.Intn(2) == 0}
	case api.DfMethod:
		d.Method = api.MethodDef{Generic: m.pick("f", "f@l"), Params: m.params(depth), Result: m.typ(depth), Body: m.expr(depth)}
	case api.DfDomain:
		d.Domain.Generic = m.pick("f", "f@l")
		for range m.Intn(4) {
			d.Domain.Types = append(d.Domain.Types, m.typ(depth))
		}
	case api.DfConst:
		d.Name, d.Body = m.pick("c", "<c>"), m.expr(depth)
	}
	return d
}

// Texts, with the expressions that the chapter says they are

// mark is a name with the mark of its token.
type mark struct {
	text string
	mark int
}

func (v mark) token() string {
	if v.mark == 0 {
		return v.text
	}
	return v.text + "'" + strconv.Itoa(v.mark)
}

// bound is the name of a variable that is bound by a token.
func (v mark) bound() string {
	if v.mark == 0 {
		return v.text
	}
	return v.text + "@" + strconv.Itoa(v.mark)
}

// used is the name of a token in an expression, where variables are in scope.
func (v mark) used(scope []mark) string {
	if v.mark == 0 || slices.Contains(scope, v) {
		return v.bound()
	}
	return v.text + "@0"
}

func (m *maker) marking(text string) mark {
	if !m.marked {
		return mark{text, 0}
	}
	return mark{text, []int{0, 1, 2}[m.Intn(3)]}
}

func (m *maker) binder() mark {
	if m.plain {
		return m.use()
	}
	return m.marking(m.pick("a", "b", "x", "a-setter", "x-setter"))
}

func (m *maker) use() mark {
	return m.marking(m.pick("a", "b", "x", "c"))
}

func v(name string) api.Expr { return api.Expr{Kind: api.ExVar, Name: name} }

func node(kind int, args ...api.Expr) api.Expr { return api.Expr{Kind: kind, Args: args} }

func prim(name string, args ...api.Expr) api.Expr {
	return api.Expr{Kind: api.ExPrim, Name: name, Args: args}
}

// begin makes a text that is an expr of the grammar by itself.
func (m *maker) begin(depth int) (string, api.Expr) {
	m.atoms = 0
	return m.text(depth, nil)
}

// text makes a text that is an expr of the grammar.
func (m *maker) text(depth int, scope []mark) (string, api.Expr) {
	if depth > 0 && m.Intn(8) == 0 {
		return m.setting(depth-1, scope)
	}
	return m.operators(0, depth, scope)
}

// setting makes a text with a :=.
func (m *maker) setting(depth int, scope []mark) (string, api.Expr) {
	name := m.use()
	setter := mark{name.text + "-setter", name.mark}
	e := v(setter.bound())
	if name.mark > 0 && !(slices.Contains(scope, name) && slices.Contains(scope, setter)) {
		e = v(setter.text + "@0")
	}
	value, e2 := m.text(depth, scope)
	if m.Intn(2) == 0 {
		object, e3 := m.operators(5, depth, scope)
		return object + " . " + name.token() + " := " + value, node(api.ExCall, e, e2, e3)
	}
	args, l := m.texts(m.Intn(3), depth, scope)
	return name.token() + " ( " + args + " ) := " + value, node(api.ExCall, append([]api.Expr{e, e2}, l...)...)
}

// texts makes texts with commas between them.
func (m *maker) texts(n, depth int, scope []mark) (string, []api.Expr) {
	var parts []string
	var l []api.Expr
	for range n {
		s, e := m.text(depth, scope)
		parts, l = append(parts, s), append(l, e)
	}
	return strings.Join(parts, " , "), l
}

// operators makes a text with operators of a level, from 0 for & and |, or of a higher one; 4 is a unary, and 5 a call.
func (m *maker) operators(level, depth int, scope []mark) (string, api.Expr) {
	if level == 5 || depth <= 0 {
		return m.call(depth, scope)
	}
	if level == 4 {
		if m.Intn(6) > 0 {
			return m.call(depth, scope)
		}
		s, e := m.operators(4, depth-1, scope)
		if m.Intn(2) == 0 {
			return "- " + s, prim("-", num(0), e)
		}
		return "~ " + s, prim("not", e)
	}
	if m.atoms > 40 {
		return m.call(0, scope)
	}
	text, e := m.operators(level+1, depth, scope)
	for range max(m.Intn(6)-3, 0) {
		s, right := m.operators(level+1, depth-1, scope)
		op := m.pick([][]string{{"&", "|"}, {"=", "==", "<", ">", "<=", ">="}, {"+", "-"}, {"*", "/"}}[level]...)
		text += " " + op + " " + s
		switch op {
		case "&":
			e = node(api.ExIf, e, right, api.Expr{Kind: api.ExBool})
		case "|":
			e = or(e, right)
		case "/":
			e = prim("quotient", e, right)
		default:
			e = prim(op, e, right)
		}
	}
	return text, e
}

func (m *maker) call(depth int, scope []mark) (string, api.Expr) {
	text, e := m.atom(depth, scope)
	for depth > 0 && m.Intn(4) == 0 {
		if m.Intn(2) == 0 {
			name := m.use()
			text, e = text+" . "+name.token(), node(api.ExCall, v(name.used(scope)), e)
			continue
		}
		args, l := m.texts(m.Intn(3), depth-1, scope)
		text, e = text+" ( "+args+" )", node(api.ExCall, append([]api.Expr{e}, l...)...)
	}
	return text, e
}

func (m *maker) atom(depth int, scope []mark) (string, api.Expr) {
	m.atoms++
	if depth <= 0 || m.Intn(4) == 0 {
		switch m.Intn(5) {
		case 0:
			n := m.integer()
			return strconv.Itoa(n), num(n)
		case 1:
			n := m.Intn(2)
			return []string{"#f", "#t"}[n], api.Expr{Kind: api.ExBool, Num: n}
		}
		name := m.use()
		return name.token(), v(name.used(scope))
	}
	depth--
	switch m.Intn(11) {
	case 0:
		s, e := m.text(depth, scope)
		return "( " + s + " )", e
	case 1:
		s, e := m.body(depth, scope)
		return "begin " + s + " end", e
	case 2:
		s, l, inner := m.bindings(scope)
		body, e := m.body(depth, inner)
		return "method " + s + " " + body + " end", api.Expr{Kind: api.ExFn, Params: l, Args: []api.Expr{e}}
	case 3:
		s, e := m.branches(depth, scope)
		return "if " + s, e
	case 4:
		return m.block(depth, scope)
	case 5:
		args, l := m.texts(m.Intn(3), depth, scope)
		return "next-method ( " + args + " )", node(api.ExNext, l...)
	case 6:
		s, e := m.text(depth, scope)
		made := node(api.ExMake, e)
		for i := range m.Intn(3) {
			value, e := m.text(depth, scope)
			key := "k" + strconv.Itoa(i)
			s += " , " + key + ": " + value
			made.Keys, made.Args = append(made.Keys, key), append(made.Args, e)
		}
		return "make ( " + s + " )", made
	case 7:
		s, e := m.text(depth, scope)
		return "instance? ( " + s + " , type-union ( <a> , singleton ( -1 ) ) )", api.Expr{Kind: api.ExIs, Type: api.Type{Kind: api.TyUnion, Args: []api.Type{class("<a>"), {Kind: api.TyInt, Lo: -1, Hi: -1}}}, Args: []api.Expr{e}}
	case 8:
		s, e := m.text(depth, scope)
		word := m.pick("print", "signal", "object-class")
		return word + " ( " + s + " )", prim(strings.Replace(word, "object-class", "class-of", 1), e)
	case 9:
		args, l := m.texts(2, depth, scope)
		return "quotient ( " + args + " )", prim("quotient", l...)
	}
	return "load-patch ( 2 )", api.Expr{Kind: api.ExLoad, Num: 2}
}

// bindings makes parameters.
func (m *maker) bindings(scope []mark) (string, []api.Param, []mark) {
	inner := slices.Clone(scope)
	var own []mark
	var parts []string
	var l []api.Param
	for range m.Intn(3) {
		name := m.binder()
		if slices.Contains(own, name) {
			continue
		}
		p := api.Param{Name: name.bound(), Type: class("<object>")}
		s := name.token()
		switch m.Intn(4) {
		case 0:
			s, p.Type = s+" :: <b>", class("<b>")
		case 1:
			s, p.Type = s+" == -2", api.Type{Kind: api.TyInt, Lo: -2, Hi: -2}
		case 2:
			s, p.Type = s+" == #t", api.Type{Kind: api.TyBool, Lo: 1}
		}
		own, parts, l = append(own, name), append(parts, s), append(l, p)
	}
	return "( " + strings.Join(parts, " , ") + " )", l, append(inner, own...)
}

// branches makes what is behind an if, or an elseif.
func (m *maker) branches(depth int, scope []mark) (string, api.Expr) {
	test, e := m.text(depth, scope)
	then, e2 := m.body(depth, scope)
	text := "( " + test + " ) " + then
	switch m.Intn(4) {
	case 0:
		s, e3 := m.branches(depth-1, scope)
		return text + " elseif " + s, node(api.ExIf, e, e2, e3)
	case 1:
		return text + " end", node(api.ExIf, e, e2, api.Expr{Kind: api.ExBool})
	}
	otherwise, e3 := m.body(depth, scope)
	return text + " else " + otherwise + " end", node(api.ExIf, e, e2, e3)
}

func (m *maker) block(depth int, scope []mark) (string, api.Expr) {
	e, inner, exit := api.Expr{Kind: api.ExBlock}, scope, ""
	if m.Intn(2) == 0 {
		name := m.binder()
		inner = append(slices.Clone(scope), name)
		e.Name, exit = name.bound(), name.token()
	}
	s, body := m.body(depth, inner)
	e.Args = append(e.Args, body)
	if m.Intn(2) == 0 {
		cleanup, last := m.body(depth, scope)
		s += " cleanup " + cleanup
		e.Args = append(e.Args, last)
	}
	return "block ( " + exit + " ) " + s + " end", e
}

// body makes a body: statements, and the expression that they are.
func (m *maker) body(depth int, scope []mark) (string, api.Expr) {
	var parts []string
	var l []api.Expr
	for range m.Intn(3) {
		s, e := m.text(depth, scope)
		parts, l = append(parts, s), append(l, e)
	}
	if m.Intn(3) == 0 {
		s, e := m.scoped(depth-1, scope)
		parts, l = append(parts, s), append(l, e)
	}
	text := strings.Join(parts, " ; ")
	if len(l) > 0 && m.Intn(3) == 0 && !strings.HasSuffix(text, ";") {
		text += " ;"
	}
	switch len(l) {
	case 0:
		return text, api.Expr{Kind: api.ExBool}
	case 1:
		return text, l[0]
	}
	return text, node(api.ExSeq, l...)
}

// scoped makes a statement with a scope, and what is in it.
func (m *maker) scoped(depth int, scope []mark) (string, api.Expr) {
	name := m.binder()
	inner := append(slices.Clone(scope), name)
	rest := func(scope []mark) (string, api.Expr) {
		s, e := m.body(depth, scope)
		if s == "" {
			return m.pick("", " ;"), e
		}
		return " ; " + s, e
	}
	switch m.Intn(3) {
	case 0:
		value, e := m.text(depth, scope)
		s, e2 := rest(inner)
		return "let " + name.token() + " = " + value + s, api.Expr{Kind: api.ExLet, Name: name.bound(), Args: []api.Expr{e, e2}}
	case 1:
		handler, e := m.text(depth, scope)
		s, e2 := rest(scope)
		return "let handler <e> = " + handler + s, api.Expr{Kind: api.ExHandle, Type: class("<e>"), Args: []api.Expr{e, e2}}
	}
	head, l, within := m.bindings(inner)
	body, e := m.body(depth, within)
	s, e2 := rest(inner)
	fn := api.Expr{Kind: api.ExFn, Name: name.bound(), Params: l, Args: []api.Expr{e}}
	return "local method " + name.token() + " " + head + " " + body + " end" + s, api.Expr{Kind: api.ExLet, Name: name.bound(), Args: []api.Expr{fn, e2}}
}
