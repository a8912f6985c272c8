package syntax

import "skerry/api"

// maxLevels is the number of levels of nesting up to which the document promises anything. Types that are deeper may have no end.
const maxLevels = 1 << 16

func getter(class string, s api.Slot) api.Def {
	object := api.Param{Name: "object", Type: classType(class)}
	body := tree(api.ExSlot, named("object"))
	return accessor(s.Name, s, body, object)
}

func setter(class string, s api.Slot) api.Def {
	value := api.Param{Name: "value", Type: copiedType(s.Type)}
	object := api.Param{Name: "object", Type: classType(class)}
	body := tree(api.ExSet, named("object"), named("value"))
	return accessor(Setter(s.Name), s, body, value, object)
}

func accessor(generic string, s api.Slot, body api.Expr, params ...api.Param) api.Def {
	body.Name = s.Name
	m := api.MethodDef{Generic: generic, Params: params, Result: copiedType(s.Type), Body: body}
	return api.Def{Kind: api.DfMethod, Method: m}
}
