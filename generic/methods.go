package generic

import (
	"slices"

	"hackamore/api"
	"hackamore/subtype"
	"hackamore/types"
	"hackamore/walk"
)

func isConcrete(e api.Entity) bool {
	return e.Kind == api.Class || e.Kind == api.Actor || e.Kind == api.Primitive
}

func hasBody(m api.Method) bool { return !walk.IsNone(m.Body) }

// isInherited reports whether a method is one that entities have from their supertypes: a function or a behaviour.
func isInherited(m api.Method) bool { return m.Kind == api.Fun || m.Kind == api.Be }

// family is an entity with its supertypes but itself.
type family struct {
	api.Entity
	program []api.Entity
	own     api.Type
	above   []api.Type
}

func newFamily(p []api.Entity, e api.Entity) (family, api.Errno) {
	f := family{Entity: e, program: p}
	var params []api.Type
	for _, b := range e.Bounds {
		params = append(params, api.Type{Kind: api.TypeParam, Name: b.Name})
	}
	f.own = types.Named(e.Name, api.Val, params)
	l, wrong := subtype.Supers(p, f.own)
	if wrong != api.OK {
		return family{}, wrong
	}
	f.above = l[1:]
	return f, api.OK
}

// candidate is a method that a supertype gives.
type candidate struct {
	api.Method
	from api.Type
}

// candidates returns the methods with a name that the supertypes give.
func (f family) candidates(name string) []candidate {
	var l []candidate
	for _, s := range f.above {
		e, _ := find(f.program, s.Name)
		for _, m := range e.Methods {
			if m.Name != name || !isInherited(m) {
				continue
			}
			if m, wrong := types.Method(m, boundNames(e.Bounds), s.Args); wrong == api.OK {
				l = append(l, candidate{m, s})
			}
		}
	}
	return l
}

// isClear reports whether the default among candidates hides all others that have a body.
func (f family) isClear(l []candidate, chosen int) bool {
	var hidden []api.Type
	for i, c := range l {
		if i == chosen || !hasBody(c.Method) {
			continue
		}
		if hidden == nil {
			hidden, _ = subtype.Supers(f.program, l[chosen].from)
		}
		if !slices.ContainsFunc(hidden, func(h api.Type) bool { return types.Equal(h, c.from) }) {
			return false
		}
	}
	return true
}

// find returns the method that the entity has, and the name of the entity that its body comes from.
func (f family) find(name string) (api.Method, string, api.Errno) {
	l := f.candidates(name)
	chosen := slices.IndexFunc(l, func(c candidate) bool { return hasBody(c.Method) })
	own := slices.IndexFunc(f.Methods, func(m api.Method) bool { return m.Name == name })
	switch {
	case own >= 0 && (hasBody(f.Methods[own]) || chosen < 0):
		return f.Methods[own], f.Name, api.OK
	case len(l) == 0 || chosen < 0 && isConcrete(f.Entity) || chosen >= 0 && !f.isClear(l, chosen):
		return api.Method{}, "", ErrMethod
	}
	c := l[max(chosen, 0)]
	m := c.Method
	if own >= 0 {
		m = f.Methods[own]
		m.Body = c.Body
	}
	return m, c.from.Name, api.OK
}

// Find returns the method of an entity with a name, and the name of the entity whose body it has.
func Find(p []api.Entity, entity, name string) (api.Method, string, api.Errno) {
	if e := wrongProgram(p); e != api.OK {
		return api.Method{}, "", e
	}
	e, ok := find(p, entity)
	if !ok {
		return api.Method{}, "", api.ErrNone
	}
	f, wrong := newFamily(p, e)
	if wrong != api.OK {
		return api.Method{}, "", wrong
	}
	return f.find(name)
}

// Whole returns a program in which each concrete entity has all its methods itself.
func Whole(p []api.Entity) ([]api.Entity, api.Errno) {
	if e := wrongProgram(p); e != api.OK {
		return nil, e
	}
	seen := map[string]bool{}
	var l []api.Entity
	for _, e := range p {
		if isConcrete(e) && !seen[e.Name] {
			f, wrong := newFamily(p, e)
			if wrong != api.OK {
				return nil, wrong
			}
			if e.Methods, wrong = f.whole(); wrong != api.OK {
				return nil, wrong
			}
		}
		seen[e.Name] = true
		l = append(l, e)
	}
	return l, api.OK
}

// whole returns all methods that the entity has.
func (f family) whole() ([]api.Method, api.Errno) {
	var l []api.Method
	names := map[string]bool{}
	for _, m := range f.Methods {
		names[m.Name] = true
		if isInherited(m) {
			found, _, e := f.find(m.Name)
			if e != api.OK {
				return nil, e
			}
			if !hasBody(m) {
				m.Body = walk.Expr(found.Body)
			}
		}
		l = append(l, m)
	}
	all, e := subtype.Methods(f.program, f.own)
	if e != api.OK {
		return nil, e
	}
	for _, m := range all {
		if names[m.Name] || !isInherited(m) {
			continue
		}
		found, _, e := f.find(m.Name)
		if e != api.OK {
			return nil, e
		}
		l = append(l, found)
	}
	return l, api.OK
}
