package library

import (
	"slices"

	"skerry/api"
	"skerry/copies"
	"skerry/fragment"
	"skerry/lists"
	"skerry/macro"
	"skerry/module"
)

func macroName(m api.Macro) string     { return m.Name }
func libOf(i api.Interface) string     { return i.Face.Lib }
func faceOf(i api.Interface) api.Face  { return i.Face }
func isRight(m api.Macro) bool         { return macro.Check(m) == api.OK }
func isInterface(i api.Interface) bool { return Check(i) == api.OK }

// isFace tells whether a face is valid by itself, as two faces of the same library are no valid list.
func isFace(f api.Face) bool {
	return module.CheckFaces([]api.Face{f}) == api.OK
}

// areMacros tells whether an interface may have some macros.
func areMacros(l []api.Macro) bool {
	return len(l) <= api.MaxMacros && lists.All(l, isRight) && lists.Distinct(l, macroName)
}

// checkAll returns OK for the interfaces of different libraries.
func checkAll(l []api.Interface) api.Errno {
	switch {
	case len(l) > api.MaxLibs:
		return api.ErrLong
	case !lists.All(l, isInterface):
		return api.ErrInterface
	case !lists.Distinct(l, libOf):
		return api.ErrTwin
	}
	return api.OK
}

// equal tells whether two interfaces are the same, if they are valid.
func equal(a, b api.Interface) bool {
	return equalFaces(a.Face, b.Face) && equalFaces(a.Whole, b.Whole) && slices.EqualFunc(a.Macros, b.Macros, equalMacros)
}

func equalFaces(f, g api.Face) bool {
	return f.Lib == g.Lib && slices.Equal(f.Names, g.Names)
}

func equalMacros(m, n api.Macro) bool {
	return m.Name == n.Name && m.Statement == n.Statement && slices.EqualFunc(m.Rules, n.Rules, equalRules)
}

func equalRules(r, q api.MacroRule) bool {
	return fragment.Same(r.Pattern, q.Pattern) && fragment.Same(r.Template, q.Template)
}

// facesFor is the faces against which a source is resolved.
func facesFor(s api.Source, used []api.Interface) []api.Face {
	if !s.Patch {
		return lists.Each(used, faceOf)
	}
	var l []api.Face
	for _, i := range used {
		if libOf(i) == s.Name {
			l = append(l, i.Whole)
		}
	}
	return l
}

// interfaceOf returns the interface of a library with macros of its own.
func interfaceOf(s api.Source, own []api.Macro, faces []api.Face) (api.Interface, api.Errno) {
	face, e := module.Faced(s, faces)
	if e != api.OK {
		return api.Interface{}, e
	}
	whole, e := module.Whole(s, faces)
	if e != api.OK {
		return api.Interface{}, e
	}
	return api.Interface{Face: face, Whole: whole, Macros: lists.Each(own, copies.Macro)}, api.OK
}
