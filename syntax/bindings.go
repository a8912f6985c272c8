package syntax

import (
	"slices"

	"skerry/api"
	"skerry/lists"
)

// boundIn is the names that an expression binds in its Args with an index. (The name of a function is bound by its let.)
func boundIn(e api.Expr, i int) []string {
	switch {
	case e.Kind == api.ExLet && i == 0 && (e.Args[0].Kind != api.ExFn || e.Args[0].Name == ""):
		return nil
	case e.Kind == api.ExBlock && (i == 1 || e.Name == ""):
		return nil
	case e.Kind == api.ExLet || e.Kind == api.ExBlock:
		return []string{e.Name}
	}
	return lists.Each(e.Params, func(p api.Param) string { return p.Name })
}

// finder finds the variables that occur outside of the scopes of their bindings.
type finder struct {
	bound map[string]int // how many bindings of a variable the place is in the scope of
	seen  map[string]bool
	found []string
}

func (f *finder) find(e api.Expr) {
	if e.Kind == api.ExVar && f.bound[e.Name] == 0 && !f.seen[e.Name] {
		f.seen[e.Name] = true
		f.found = append(f.found, e.Name)
	}
	for i, a := range e.Args {
		names := boundIn(e, i)
		for _, name := range names {
			f.bound[name]++
		}
		f.find(a)
		for _, name := range names {
			f.bound[name]--
		}
	}
}

// bindings are those in whose scope a place is: the number of the innermost one of each variable.
type bindings map[string]int

// pairing holds two expressions against each other. Bindings that correspond have the same number, from 1 on.
type pairing struct {
	left, right bindings
	count       int
}

func (p *pairing) alike(a, b api.Expr) bool {
	if a.Kind != b.Kind || a.Num != b.Num || !sameTypes(a.Type, b.Type) || !slices.Equal(a.Keys, b.Keys) || len(a.Args) != len(b.Args) {
		return false
	}
	typed := func(p, q api.Param) bool { return sameTypes(p.Type, q.Type) }
	if !slices.EqualFunc(a.Params, b.Params, typed) || !p.alikeNames(a, b) {
		return false
	}
	for i := range a.Args {
		if !p.within(boundIn(a, i), boundIn(b, i), a.Args[i], b.Args[i]) {
			return false
		}
	}
	return true
}

func (p *pairing) alikeNames(a, b api.Expr) bool {
	switch a.Kind {
	case api.ExVar:
		n := p.left[a.Name]
		return n == p.right[b.Name] && (n > 0 || a.Name == b.Name)
	case api.ExPrim:
		return a.Name == b.Name
	}
	return (a.Name == "") == (b.Name == "")
}

// within tells whether two expressions are alike in the scope of variables that correspond.
func (p *pairing) within(left, right []string, a, b api.Expr) bool {
	if len(left) != len(right) {
		return false
	}
	outer := *p
	p.left, p.right = p.left.with(left, p.count), p.right.with(right, p.count)
	p.count += len(left)
	same := p.alike(a, b)
	p.left, p.right = outer.left, outer.right
	return same
}

// with is bindings with further ones, of which the first one has the number behind count.
func (b bindings) with(names []string, count int) bindings {
	if len(names) == 0 {
		return b
	}
	more := bindings{}
	for name, n := range b {
		more[name] = n
	}
	for i, name := range names {
		more[name] = count + i + 1
	}
	return more
}
