package check

import (
	"slices"

	"hackamore/api"
	"hackamore/bodies"
	"hackamore/subtype"
	"hackamore/types"
	"hackamore/walk"
)

// The rules of what runs in another order than one thing behind the other.

func (r rule) seq() (api.Type, api.Errno) {
	if len(r.kids) == 0 {
		return bodies.None(), api.OK
	}
	return r.kids[len(r.kids)-1], api.OK
}

func (r rule) branch() (api.Type, api.Errno) {
	if !r.fits(r.kids[0], boolean()) {
		return api.Type{}, api.ErrType
	}
	return union(r.kids[1], r.orNone(2))
}

func (r rule) loop() (api.Type, api.Errno) {
	if !r.fits(r.kids[0], boolean()) {
		return api.Type{}, api.ErrType
	}
	return union(r.kids[1], r.orNone(2), bodies.None())
}

func (r rule) match() (api.Type, api.Errno) {
	operand, cases := r.kids[0], r.x.Kids[1:]
	if walk.IsZero(operand) {
		return operand, api.ErrType
	}
	claims := newClaims(r.program)
	var sure []api.Type
	for _, x := range cases {
		if len(x.Types) != 1 || len(x.Kids) != 2 || !claims.hold(operand, x.Types[0]) {
			return operand, ErrCases
		}
		if x.Kids[0].Op == 0 {
			sure = append(sure, x.Types[0])
		}
	}
	covered, e := union(sure...)
	if e != api.OK {
		return covered, e
	}
	values := slices.Clone(r.kids[1:])
	if !subtype.Bare(r.program, operand, covered) {
		values = append(values, bodies.None())
	}
	return union(values...)
}

func (r rule) oneCase() (api.Type, api.Errno) {
	switch {
	case !isStored(r.x.Types[0]):
		return api.Type{}, api.ErrForm
	case r.x.Kids[0].Op != 0 && !r.fits(r.kids[0], boolean()):
		return api.Type{}, api.ErrType
	}
	return r.kids[1], api.OK
}

func (r rule) attempt() (api.Type, api.Errno) { return union(r.kids[0], r.orNone(1)) }

// leave is the rule of what never has a value.
func (r rule) leave() (api.Type, api.Errno) { return api.Type{}, api.OK }

func (r rule) giveBack() (api.Type, api.Errno) {
	value, want := bodies.None(), bodies.None()
	if len(r.kids) > 0 {
		value = r.kids[0]
	}
	if m := r.method(); m.Kind == api.Fun && !walk.IsZero(m.Result) {
		t, e := types.Self(m.Result, r.receiver(), api.Plain)
		if e != api.OK {
			return t, e
		}
		want = t
	}
	if !r.fits(value, want) {
		return want, ErrResult
	}
	return api.Type{}, api.OK
}
