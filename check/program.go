package check

import (
	"slices"

	"hackamore/api"
	"hackamore/bodies"
	"hackamore/cap"
	"hackamore/subtype"
	"hackamore/types"
	"hackamore/walk"
)

// Program returns the first error of the entities of a program, without their bodies.
func Program(p []api.Entity) (Fault, api.Errno) {
	if len(p) > api.MaxUnits {
		return Fault{Method: -1}, api.ErrSize
	}
	for i, entity := range p {
		if e := wrongHead(p, i); e != api.OK {
			return Fault{Entity: i, Method: -1}, e
		}
		for j := range entity.Methods {
			if e := wrongMethod(entity, j); e != api.OK {
				return Fault{Entity: i, Method: j}, e
			}
		}
	}
	for i, entity := range p {
		if !keepsPromises(p, entity) {
			return Fault{Entity: i, Method: -1}, ErrEntity
		}
	}
	return Fault{}, api.OK
}

// wrongHead returns the first error of what an entity has ahead of its methods.
func wrongHead(p []api.Entity, i int) api.Errno {
	x := p[i]
	switch {
	case slices.ContainsFunc(p[:i], func(other api.Entity) bool { return other.Name == x.Name }):
		return api.ErrTwice
	case x.Kind < api.Class || x.Kind > api.Interface || !cap.Is(x.Cap) || len(x.Bounds) > 0:
		return api.ErrForm
	case len(x.Provides) > api.MaxList || len(x.Fields) > api.MaxList || len(x.Methods) > api.MaxList:
		return api.ErrSize
	}
	for _, t := range x.Provides {
		if !mayProvide(p, x, t) {
			return ErrEntity
		}
	}
	if len(x.Fields) > 0 && x.Kind != api.Class && x.Kind != api.Actor {
		return ErrEntity
	}
	for j, f := range x.Fields {
		if slices.ContainsFunc(x.Fields[:j], func(other api.Field) bool { return other.Name == f.Name }) {
			return api.ErrTwice
		}
		if !isStored(f.Type) {
			return api.ErrForm
		}
	}
	return api.OK
}

// mayProvide reports whether an entity may provide a type.
func mayProvide(p []api.Entity, x api.Entity, t api.Type) bool {
	i, e := subtype.Find(p, t.Name)
	if t.Kind != api.TypeName || len(t.Args) > 0 || !types.Reified(t) || e != api.OK {
		return false
	}
	if p[i].Kind != api.Interface && (p[i].Kind != api.Trait || x.Kind == api.Interface) {
		return false
	}
	above, _ := subtype.Supers(p, t)
	return !slices.ContainsFunc(above, func(s api.Type) bool { return s.Name == x.Name })
}

// wrongMethod returns the first error of a method of an entity.
func wrongMethod(x api.Entity, j int) api.Errno {
	m := x.Methods[j]
	switch {
	case slices.ContainsFunc(x.Methods[:j], func(other api.Method) bool { return other.Name == m.Name }):
		return api.ErrTwice
	case m.Kind < api.New || m.Kind > api.Be || !cap.Is(m.Cap) || len(m.Bounds) > 0 || len(m.Params) > api.MaxList:
		return api.ErrForm
	case hasTwins(m.Params):
		return api.ErrTwice
	case !isSigned(m):
		return api.ErrForm
	case isMisplaced(x, m):
		return ErrEntity
	case sends(x, m) && slices.ContainsFunc(m.Params, func(a api.Param) bool { return !types.Sendable(a.Type) }):
		return ErrSend
	case hasBody(m) && x.Kind == api.Interface, !hasBody(m) && bodies.IsConcrete(x) && !Builtin(x.Name):
		return ErrPlace
	}
	return api.OK
}

// hasTwins reports whether two parameters have one name.
func hasTwins(l []api.Param) bool {
	seen := map[string]bool{}
	for _, x := range l {
		seen[x.Name] = true
	}
	return len(seen) < len(l)
}

// isSigned reports whether all types of a method are as they may be.
func isSigned(m api.Method) bool {
	fine := func(t api.Type) bool {
		_, e := types.Self(t, m.Cap, api.Plain)
		return e == api.OK && !walk.HasParams(t) && isEven(t)
	}
	return !slices.ContainsFunc(m.Params, func(x api.Param) bool { return !fine(x.Type) }) && (walk.IsZero(m.Result) || fine(m.Result))
}

// isMisplaced reports whether an entity of its kind may not have such a method.
func isMisplaced(x api.Entity, m api.Method) bool {
	starts := m.Kind == api.New && x.Kind == api.Actor
	switch {
	case m.Kind == api.New && (x.Kind == api.Trait || x.Kind == api.Interface):
		return true
	case m.Kind == api.Be && (x.Kind == api.Class || x.Kind == api.Primitive):
		return true
	case starts && m.Cap != api.Tag, m.Kind == api.New && x.Kind == api.Primitive && m.Cap != api.Val:
		return true
	case m.Kind == api.Be && !walk.IsZero(m.Result) && !types.Equal(m.Result, bodies.None()):
		return true
	}
	return m.Partial && (m.Kind == api.Be || starts)
}

// sends reports whether only what is sendable may be an argument of a method.
func sends(x api.Entity, m api.Method) bool {
	switch {
	case m.Kind == api.Be:
		return true
	case m.Kind != api.New:
		return false
	case x.Kind == api.Class:
		return m.Cap == api.Iso || m.Cap == api.Trn || m.Cap == api.Val
	}
	return x.Kind == api.Actor
}

// keepsPromises reports whether an entity has all methods of what it provides.
func keepsPromises(p []api.Entity, x api.Entity) bool {
	if len(x.Provides) == 0 {
		return true
	}
	l, _ := subtype.Methods(p, types.Named(x.Name, api.Ref, nil))
	own := map[string]api.Method{}
	for _, m := range l {
		own[m.Name] = m
	}
	for _, t := range x.Provides {
		asked, _ := subtype.Methods(p, t)
		for _, n := range asked {
			if !keeps(p, x, own, n) {
				return false
			}
		}
	}
	return true
}

// keeps reports whether an entity, with its methods by their names, has a method that is asked for.
func keeps(p []api.Entity, x api.Entity, own map[string]api.Method, n api.Method) bool {
	m, ok := own[n.Name]
	if !ok || n.Kind == api.Be && (x.Kind == api.Class || x.Kind == api.Primitive) {
		return false
	}
	return subtype.Method(p, m, n) && (hasBody(m) || !bodies.IsConcrete(x) || Builtin(x.Name))
}
