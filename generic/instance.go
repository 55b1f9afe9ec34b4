package generic

import (
	"hackamore/api"
	"hackamore/types"
)

// Instance returns an entity with type arguments in the place of its parameters.
func Instance(p []api.Entity, name string, args []api.Type) (api.Entity, api.Errno) {
	if e := wrongProgram(p); e != api.OK {
		return api.Entity{}, e
	}
	e, ok := find(p, name)
	if !ok {
		return api.Entity{}, api.ErrNone
	}
	return instance(p, e, args)
}

func instance(p []api.Entity, of api.Entity, args []api.Type) (api.Entity, api.Errno) {
	if e := fulfils(p, of.Bounds, args); e != api.OK {
		return api.Entity{}, e
	}
	name, e := Named(of.Name, args)
	if e != api.OK {
		return api.Entity{}, e
	}
	params := boundNames(of.Bounds)
	i := api.Entity{Kind: of.Kind, Name: name, Cap: of.Cap}
	for _, t := range of.Provides {
		if t, e = types.Subst(t, params, args); e != api.OK {
			return api.Entity{}, e
		}
		i.Provides = append(i.Provides, t)
	}
	for _, f := range of.Fields {
		if f.Type, e = types.Subst(f.Type, params, args); e != api.OK {
			return api.Entity{}, e
		}
		i.Fields = append(i.Fields, f)
	}
	for _, m := range of.Methods {
		if m, e = types.Method(m, params, args); e != api.OK {
			return api.Entity{}, e
		}
		i.Methods = append(i.Methods, m)
	}
	return i, api.OK
}

// Variant returns a method of an entity with type arguments in the place of its own parameters.
func Variant(m api.Method, args []api.Type) (api.Method, api.Errno) {
	if isLargeMethod(m) {
		return api.Method{}, api.ErrSize
	}
	if len(args) != len(m.Bounds) {
		return api.Method{}, api.ErrArg
	}
	for _, a := range args {
		if e := types.Check(a); e != api.OK {
			return api.Method{}, e
		}
	}
	name, e := Named(m.Name, args)
	if e != api.OK {
		return api.Method{}, e
	}
	if m, e = types.Method(m, boundNames(m.Bounds), args); e != api.OK {
		return api.Method{}, e
	}
	m.Name = name
	return m, api.OK
}
