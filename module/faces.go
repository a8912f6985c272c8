package module

import (
	"slices"

	"skerry/api"
	"skerry/lex"
	"skerry/lists"
)

func rightFace(f api.Face) bool {
	name := func(x api.Export) string { return x.Name }
	return lex.IsPlain(f.Lib) && len(f.Names) <= api.MaxDefs && lists.All(f.Names, rightExport) && lists.Distinct(f.Names, name)
}

func rightExport(x api.Export) bool {
	return lex.IsPlain(x.Name) && lex.IsName(x.Full) && !lex.IsPlain(x.Full) && rightArity(x)
}

func rightArity(x api.Export) bool {
	switch x.Kind {
	case api.DfGeneric:
		return 0 <= x.Arity && x.Arity <= api.MaxParams
	case api.DfClass, api.DfConst:
		return x.Arity == 0
	}
	return false
}

// faceOf returns the face of a library, if there is one.
func faceOf(faces []api.Face, lib string) (api.Face, bool) {
	i := slices.IndexFunc(faces, func(f api.Face) bool { return f.Lib == lib })
	if i < 0 {
		return api.Face{}, false
	}
	return faces[i], true
}

// nameOf returns the entry of a face for a name, if there is one.
func nameOf(f api.Face, name string) (api.Export, bool) {
	i := slices.IndexFunc(f.Names, func(x api.Export) bool { return x.Name == name })
	if i < 0 {
		return api.Export{}, false
	}
	return f.Names[i], true
}

// brought is the entries that a use clause brings from a face.
func brought(u api.Use, f api.Face) []api.Export {
	if !u.All {
		return lists.Each(u.Names, func(r api.Rename) api.Export {
			x, _ := nameOf(f, r.From)
			x.Name = r.To
			return x
		})
	}
	return lists.Each(f.Names, func(x api.Export) api.Export {
		x.Name = u.Prefix + x.Name
		return x
	})
}
