package syntax

import (
	"skerry/api"
	"skerry/lists"
)

// shape is which fields, beside Kind, expressions of a kind use, and how many Args they have.
type shape struct {
	name, num, typed, params, keys bool
	least, most                    int
}

func shapeOf(kind int) (shape, bool) {
	switch kind {
	case api.ExNum, api.ExBool, api.ExLoad:
		return shape{num: true}, true
	case api.ExVar:
		return shape{name: true}, true
	case api.ExCall:
		return shape{least: 1, most: api.MaxArgs + 1}, true
	case api.ExIf:
		return shape{least: 3, most: 3}, true
	case api.ExLet:
		return shape{name: true, least: 2, most: 2}, true
	case api.ExSeq:
		return shape{least: 2, most: api.MaxNodes}, true
	case api.ExFn:
		return shape{name: true, params: true, least: 1, most: 1}, true
	case api.ExBlock:
		return shape{name: true, least: 1, most: 2}, true
	case api.ExHandle:
		return shape{typed: true, least: 2, most: 2}, true
	case api.ExNext:
		return shape{most: api.MaxParams}, true
	case api.ExMake:
		return shape{keys: true, least: 1, most: api.MaxArgs + 1}, true
	case api.ExPrim:
		return shape{name: true, least: 1, most: 2}, true
	case api.ExIs:
		return shape{typed: true, least: 1, most: 1}, true
	}
	return shape{}, false
}

// fits tells whether an expression has just the fields of its kind.
func fits(e api.Expr) bool {
	s, ok := shapeOf(e.Kind)
	return ok && s.least <= len(e.Args) && len(e.Args) <= s.most &&
		(s.name || e.Name == "") && (s.num || e.Num == 0) && (s.typed || isNoType(e.Type)) &&
		(s.params || len(e.Params) == 0) && (s.keys || len(e.Keys) == 0)
}

func isNoExpr(e api.Expr) bool {
	return e.Kind == 0 && e.Name == "" && e.Num == 0 && isNoType(e.Type) && len(e.Params) == 0 && len(e.Keys) == 0 && len(e.Args) == 0
}

// rightExpr tells whether an expression whose extent is right is well-formed. Own is the name of what it is bound to, which it may have as a function.
func rightExpr(e api.Expr, own string) bool {
	switch {
	case isChoice(e):
		return rightExpr(e.Args[0], "") && rightExpr(e.Args[1].Args[2], "")
	case !fits(e) || !rightFields(e, own):
		return false
	}
	for i, a := range e.Args {
		own := ""
		if e.Kind == api.ExLet && i == 0 {
			own = e.Name
		}
		if !rightExpr(a, own) {
			return false
		}
	}
	return true
}

// isChoice tells whether an expression is one that the operator | makes.
func isChoice(e api.Expr) bool {
	if e.Kind != api.ExLet || e.Name != either || !fits(e) {
		return false
	}
	choice := e.Args[1]
	return choice.Kind == api.ExIf && fits(choice) && isEither(choice.Args[0]) && isEither(choice.Args[1])
}

func isEither(e api.Expr) bool {
	return e.Kind == api.ExVar && e.Name == either && fits(e)
}

// rightFields tells whether the fields that an expression uses, but for Args, have right values.
func rightFields(e api.Expr, own string) bool {
	switch e.Kind {
	case api.ExBool:
		return e.Num == 0 || e.Num == 1
	case api.ExLoad:
		return e.Num >= 0
	case api.ExVar, api.ExLet:
		return isName(e.Name)
	case api.ExFn:
		return (e.Name == "" || e.Name == own) && rightParams(e.Params)
	case api.ExBlock:
		return e.Name == "" || isName(e.Name)
	case api.ExHandle, api.ExIs:
		return rightType(e.Type)
	case api.ExMake:
		return len(e.Args) == len(e.Keys)+1 && distinct(e.Keys, isKey)
	case api.ExPrim:
		return len(e.Args) == operands(e.Name)
	}
	return true
}

// operands is how many Args a primitive operation has, 0 if there is no such operation.
func operands(name string) int {
	switch name {
	case "+", "-", "*", "quotient", "<", "<=", ">", ">=", "=", "==":
		return 2
	case "not", "print", "signal", "class-of":
		return 1
	}
	return 0
}

func rightParams(l []api.Param) bool {
	names := lists.Each(l, func(p api.Param) string { return p.Name })
	typed := func(p api.Param) bool { return rightType(p.Type) }
	return len(l) <= api.MaxParams && distinct(names, isName) && lists.All(l, typed)
}

// rightType tells whether a type whose extent is right is well-formed.
func rightType(t api.Type) bool {
	rest := t // without the fields that its kind uses
	rest.Kind = 0
	right := false
	switch t.Kind {
	case api.TyClass, api.TySub:
		rest.Name = ""
		right = isName(t.Name)
	case api.TyInt:
		rest.Lo, rest.Hi = 0, 0
		right = t.Lo <= t.Hi
	case api.TyBool:
		rest.Lo = 0
		right = t.Lo == 0 || t.Lo == 1
	case api.TyUnion:
		rest.Args = nil
		right = len(t.Args) <= api.MaxArgs && lists.All(t.Args, rightType)
	}
	return right && isNoType(rest)
}
