package syntax

import "skerry/api"

// either is the variable of the operator |. No name is like it, so that nothing else is bound by it.
const either = "%|"

func tree(kind int, args ...api.Expr) api.Expr {
	return api.Expr{Kind: kind, Args: args}
}

func number(n int) api.Expr {
	return api.Expr{Kind: api.ExNum, Num: n}
}

func boolean(n int) api.Expr {
	return api.Expr{Kind: api.ExBool, Num: n}
}

func named(name string) api.Expr {
	return api.Expr{Kind: api.ExVar, Name: name}
}

func let(name string, value, rest api.Expr) api.Expr {
	return api.Expr{Kind: api.ExLet, Name: name, Args: []api.Expr{value, rest}}
}

func primitive(name string, args ...api.Expr) api.Expr {
	return api.Expr{Kind: api.ExPrim, Name: name, Args: args}
}
