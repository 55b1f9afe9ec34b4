// Package bodies tells what the layers that go through the bodies of methods ask of them: what the receiver is, what has to
// be returned, which local variables are given up, and which calls may end with an error.
package bodies

import (
	"slices"

	"hackamore/api"
	"hackamore/subtype"
	"hackamore/types"
	"hackamore/walk"
)

// None returns the type of None.
func None() api.Type { return types.Named("None", api.Val, nil) }

// IsMethod reports whether there is a method with these numbers.
func IsMethod(p []api.Entity, entity, method int) bool {
	return entity >= 0 && entity < len(p) && method >= 0 && method < len(p[entity].Methods)
}

// IsConcrete reports whether an entity has objects of its own.
func IsConcrete(e api.Entity) bool {
	return e.Kind == api.Class || e.Kind == api.Actor || e.Kind == api.Primitive
}

// Receiver returns the capability that the receiver has in a method.
func Receiver(e api.Entity, m api.Method) int {
	switch {
	case m.Kind == api.Fun:
		return m.Cap
	case e.Kind == api.Primitive:
		return api.Val
	}
	return api.Ref
}

// Fits reports whether a value of a type may stand where another type is asked for; what never has a value may.
func Fits(p []api.Entity, a, b api.Type) bool { return walk.IsZero(a) || subtype.Is(p, a, b) }

// Returns reports whether the body of a method may have a value of a type: only a function with a result asks for one.
func Returns(p []api.Entity, e api.Entity, m api.Method, t api.Type) bool {
	if m.Kind != api.Fun || walk.IsZero(m.Result) || types.Equal(m.Result, None()) {
		return true
	}
	want, wrong := types.Self(m.Result, Receiver(e, m), api.Plain)
	return wrong == api.OK && Fits(p, t, want)
}

// Consumed returns the names of the local variables that a body gives up somewhere.
func Consumed(body api.Expr) map[string]bool {
	lost := map[string]bool{}
	for x := range walk.Body(body) {
		if x.Op == api.OpConsume {
			lost[x.Text] = true
		}
	}
	return lost
}

// Constructor returns the constructor that an OpNew names, and its entity.
func Constructor(p []api.Entity, x api.Expr) (api.Entity, api.Method, api.Errno) {
	t := x.Types[0]
	i, e := subtype.Find(p, t.Name)
	if e != api.OK || len(t.Args) > 0 || len(p[i].Bounds) > 0 || !IsConcrete(p[i]) {
		return api.Entity{}, api.Method{}, api.ErrType
	}
	j := slices.IndexFunc(p[i].Methods, func(m api.Method) bool { return m.Name == x.Text })
	if j < 0 || p[i].Methods[j].Kind != api.New {
		return api.Entity{}, api.Method{}, api.ErrNone
	}
	return p[i], p[i].Methods[j], api.OK
}

// IsPartial reports whether an expression is a call, or a construction, that may end with an error, by the types of its Kids.
func IsPartial(p []api.Entity, x api.Expr, kids []api.Type) bool {
	switch x.Op {
	case api.OpCall:
		m, e := subtype.Lookup(p, kids[0], x.Text)
		return e == api.OK && m.Partial
	case api.OpNew:
		_, m, e := Constructor(p, x)
		return e == api.OK && m.Partial
	}
	return false
}

// LookedAt returns the type of what stays where it is, also if it was given up: of a value behind a reference to it.
func LookedAt(t api.Type) (api.Type, api.Errno) {
	once, e := types.Aliased(t)
	if e != api.OK {
		return api.Type{}, e
	}
	return types.Aliased(once)
}
