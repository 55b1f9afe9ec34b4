package generic

import (
	"cmp"
	"slices"

	"hackamore/api"
	"hackamore/walk"
)

// The following methods make what was made flat: names with type arguments become names without any. Their errors were
// told when they were needed.

func (r *reifier) flatType(t api.Type) api.Type {
	args := t.Args
	t.Args = nil
	if t.Kind == api.TypeName {
		t.Name, _ = Named(t.Name, args)
		return t
	}
	for _, a := range args {
		t.Args = append(t.Args, r.flatType(a))
	}
	return t
}

// flatCalls returns a body with flat types whose calls have the names of variants, for the type arguments that they had.
func (r *reifier) flatCalls(flat, old api.Expr) api.Expr {
	if l := ownArgs(old); len(l) > 0 {
		flat.Text, _ = Named(flat.Text, l)
		flat.Types = slices.Delete(flat.Types, len(flat.Types)-len(l), len(flat.Types))
	}
	for i, k := range flat.Kids {
		flat.Kids[i] = r.flatCalls(k, old.Kids[i])
	}
	return flat
}

func (r *reifier) flatMethod(m api.Method) api.Method {
	for i := range m.Params {
		m.Params[i].Type = r.flatType(m.Params[i].Type)
	}
	m.Result = r.flatType(m.Result)
	m.Body = r.flatCalls(walk.Map(m.Body, r.flatType), m.Body)
	return m
}

// flatEntity returns an instance, with the variants of its methods in their places.
func (r *reifier) flatEntity(m *made) api.Entity {
	e := m.Entity
	for i, t := range e.Provides {
		e.Provides[i] = r.flatType(t)
	}
	for i, f := range e.Fields {
		e.Fields[i].Type = r.flatType(f.Type)
	}
	e.Methods = nil
	for i, x := range m.Methods {
		l := []api.Method{x}
		if g := m.generics[i]; g != nil {
			l = g.variants
			slices.SortFunc(l, func(a, b api.Method) int { return cmp.Compare(a.Name, b.Name) })
		}
		for _, v := range l {
			e.Methods = append(e.Methods, r.flatMethod(v))
		}
	}
	return e
}
