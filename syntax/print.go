package syntax

import (
	"strings"

	"skerry/api"
	"skerry/lex"
	"skerry/lists"
)

// line joins texts that are not empty.
func line(parts ...string) string {
	return joined(" ", parts)
}

func joined(between string, parts []string) string {
	var b strings.Builder
	for _, s := range parts {
		if s != "" && b.Len() > 0 {
			b.WriteString(between)
		}
		b.WriteString(s)
	}
	return b.String()
}

// ifShort returns a text that is not too long.
func ifShort(text string) (string, api.Errno) {
	if len(text) > api.MaxText || strings.Count(text, " ")+1 > api.MaxTokens {
		return "", api.ErrLong
	}
	return text, api.OK
}

func commas(parts []string) string {
	return joined(" , ", parts)
}

func inParentheses(parts []string) string {
	return line("(", commas(parts), ")")
}

// exprText is the text of an expression, one that can stand for an expr of the grammar.
func exprText(e api.Expr) string {
	switch e.Kind {
	case api.ExNum:
		return numberText(e.Num)
	case api.ExBool:
		return booleanText(e.Num)
	case api.ExVar:
		return e.Name
	case api.ExCall:
		return line(operandText(e.Args[0]), exprTexts(e.Args[1:]))
	case api.ExIf:
		return line("if (", exprText(e.Args[0]), ")", bodyText(e.Args[1]), "else", bodyText(e.Args[2]), "end")
	case api.ExSeq, api.ExLet, api.ExHandle:
		if isChoice(e) {
			return line(operandText(e.Args[0]), "|", operandText(e.Args[1].Args[2]))
		}
		return line("begin", bodyText(e), "end")
	case api.ExFn:
		return line("method", functionText(e))
	case api.ExBlock:
		return blockText(e)
	case api.ExNext:
		return line("next-method", exprTexts(e.Args))
	case api.ExMake:
		return makeText(e)
	case api.ExPrim:
		return primitiveText(e)
	case api.ExIs:
		return line("instance? (", exprText(e.Args[0]), ",", typeText(e.Type), ")")
	}
	return line("load-patch (", lex.Digits(e.Num), ")")
}

// numberText is the text of an integer. One below 0 may stand behind a name or a closing parenthesis, so it is put into parentheses.
func numberText(n int) string {
	if n < 0 {
		return line("(", lex.Digits(n), ")")
	}
	return lex.Digits(n)
}

func booleanText(n int) string {
	if n == 0 {
		return "#f"
	}
	return "#t"
}

func exprTexts(l []api.Expr) string {
	return inParentheses(lists.Each(l, exprText))
}

// operandText is the text of an expression, one that can stand for an atom of the grammar.
func operandText(e api.Expr) string {
	if isChoice(e) || e.Kind == api.ExPrim && (isOperator(e.Name) || e.Name == "not") {
		return line("(", exprText(e), ")")
	}
	return exprText(e)
}

// isOperator tells whether a primitive operation has the text of a binary operator.
func isOperator(name string) bool {
	return operands(name) == 2 && name != "quotient"
}

func primitiveText(e api.Expr) string {
	switch {
	case isOperator(e.Name):
		return line(operandText(e.Args[0]), e.Name, operandText(e.Args[1]))
	case e.Name == "not":
		return line("~", operandText(e.Args[0]))
	case e.Name == "class-of":
		return line("object-class", exprTexts(e.Args))
	}
	return line(e.Name, exprTexts(e.Args))
}

// bodyText is the text of the statements of an expression.
func bodyText(e api.Expr) string {
	if e.Kind != api.ExSeq {
		return tailText(e)
	}
	last := len(e.Args) - 1
	return line(joined(" ; ", lists.Each(e.Args[:last], exprText)), ";", tailText(e.Args[last]))
}

// tailText is the text of the last ones of the statements of a body: an expression, or a statement with what is in its scope.
func tailText(e api.Expr) string {
	switch {
	case isChoice(e) || e.Kind != api.ExLet && e.Kind != api.ExHandle:
		return exprText(e)
	case e.Kind == api.ExHandle:
		return line("let handler", typeText(e.Type), "=", exprText(e.Args[0]), ";", bodyText(e.Args[1]))
	case e.Args[0].Kind == api.ExFn && e.Args[0].Name != "":
		return line("local method", e.Name, functionText(e.Args[0]), ";", bodyText(e.Args[1]))
	}
	return line("let", e.Name, "=", exprText(e.Args[0]), ";", bodyText(e.Args[1]))
}

// functionText is the text of a function behind the word method and its name.
func functionText(e api.Expr) string {
	return line(paramsText(e.Params), bodyText(e.Args[0]), "end")
}

func paramsText(l []api.Param) string {
	return inParentheses(lists.Each(l, func(p api.Param) string { return line(p.Name, "::", typeText(p.Type)) }))
}

func blockText(e api.Expr) string {
	cleanup := ""
	if len(e.Args) == 2 {
		cleanup = line("cleanup", bodyText(e.Args[1]))
	}
	return line("block (", e.Name, ")", bodyText(e.Args[0]), cleanup, "end")
}

func makeText(e api.Expr) string {
	parts := lists.Each(e.Args, exprText)
	for i, key := range e.Keys {
		parts[i+1] = line(key+":", parts[i+1])
	}
	return line("make", inParentheses(parts))
}

func typeText(t api.Type) string {
	switch t.Kind {
	case api.TyInt:
		return line("limited (", lex.Digits(t.Lo), ",", lex.Digits(t.Hi), ")")
	case api.TyBool:
		return line("singleton (", booleanText(t.Lo), ")")
	case api.TySub:
		return line("subclass (", t.Name, ")")
	case api.TyUnion:
		return line("type-union", inParentheses(lists.Each(t.Args, typeText)))
	}
	return t.Name
}
