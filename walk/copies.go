package walk

import (
	"slices"

	"hackamore/api"
)

// Method returns a method with memory of its own.
func Method(m api.Method) api.Method {
	m.Bounds, m.Params = bounds(m.Bounds), slices.Clone(m.Params)
	for i := range m.Params {
		m.Params[i].Type = Type(m.Params[i].Type)
	}
	m.Result, m.Body = Type(m.Result), Expr(m.Body)
	return m
}

func bounds(l []api.Bound) []api.Bound {
	l = slices.Clone(l)
	for i := range l {
		l[i].Type = Type(l[i].Type)
	}
	return l
}

// Entity returns an entity with memory of its own.
func Entity(e api.Entity) api.Entity {
	e.Bounds, e.Provides = bounds(e.Bounds), Types(e.Provides)
	e.Fields, e.Methods = slices.Clone(e.Fields), slices.Clone(e.Methods)
	for i := range e.Fields {
		e.Fields[i].Type = Type(e.Fields[i].Type)
	}
	for i := range e.Methods {
		e.Methods[i] = Method(e.Methods[i])
	}
	return e
}

// Program returns a program with memory of its own.
func Program(p []api.Entity) []api.Entity {
	p = slices.Clone(p)
	for i := range p {
		p[i] = Entity(p[i])
	}
	return p
}

// Value returns a value with memory of its own.
func Value(v api.Value) api.Value {
	v.Kids = Values(v.Kids)
	return v
}

// Values returns a list of values with memory of its own.
func Values(l []api.Value) []api.Value {
	if len(l) == 0 {
		return nil
	}
	c := make([]api.Value, len(l))
	for i, v := range l {
		c[i] = Value(v)
	}
	return c
}
