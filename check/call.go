package check

import (
	"hackamore/api"
	"hackamore/bodies"
	"hackamore/cap"
	"hackamore/subtype"
	"hackamore/types"
	"hackamore/walk"
)

func (r rule) call() (api.Type, api.Errno) {
	on := r.kids[0]
	if walk.IsZero(on) {
		return on, api.ErrType
	}
	m, e := subtype.Lookup(r.program, on, r.x.Text)
	switch {
	case e != api.OK:
		return on, api.ErrNone
	case m.Kind == api.New:
		return on, ErrPlace
	}
	seen := api.Tag
	if m.Kind == api.Fun {
		if seen, e = r.through(on, m); e != api.OK {
			return on, e
		}
	}
	if e := r.arguments(m, r.kids[1:], seen); e != api.OK {
		return on, e
	}
	if m.Kind == api.Be || walk.IsZero(m.Result) {
		return bodies.None(), api.OK
	}
	return types.Self(m.Result, seen, api.Plain)
}

// through returns the capability with which the types of a function mean the receiver on which it is called.
func (r rule) through(on api.Type, m api.Method) (int, api.Errno) {
	counts, native, enough := api.CapNone, !hasBody(m), true
	for part := range walk.Parts(on) {
		c := walk.Counts(part.Cap, part.Mark)
		if part.Kind != api.TypeName || counts != api.CapNone && counts != c {
			return 0, api.ErrType
		}
		counts = c
		enough = enough && cap.Fits(part.Cap, part.Mark, m.Cap, api.Plain)
		native = native && r.isNative(part)
	}
	switch {
	case !enough:
		return 0, ErrView
	case native:
		return counts, api.OK
	}
	return m.Cap, api.OK
}

// isNative reports whether a type is that of a builtin concrete entity.
func (r rule) isNative(t api.Type) bool {
	i, e := subtype.Find(r.program, t.Name)
	return e == api.OK && Builtin(t.Name) && bodies.IsConcrete(r.program[i])
}

// arguments returns the error of the arguments of a method.
func (r rule) arguments(m api.Method, l []api.Type, seen int) api.Errno {
	if len(l) != len(m.Params) {
		return ErrArgs
	}
	for i, a := range l {
		t, e := types.Self(m.Params[i].Type, seen, api.Plain)
		if e != api.OK {
			return e
		}
		if !r.fits(a, t) {
			return ErrArgs
		}
	}
	return api.OK
}

func (r rule) construct() (api.Type, api.Errno) {
	x, m, e := bodies.Constructor(r.program, r.x)
	if e == api.OK {
		e = r.arguments(m, r.kids, bodies.Receiver(x, m))
	}
	if e != api.OK {
		return api.Type{}, e
	}
	return types.Consumed(types.Named(x.Name, m.Cap, nil))
}
