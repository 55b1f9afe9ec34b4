package types

import (
	"slices"

	"hackamore/api"
	"hackamore/cap"
	"hackamore/walk"
)

// Subst returns a type in which type parameters are replaced.
func Subst(t api.Type, params []string, args []api.Type) (api.Type, api.Errno) {
	if len(params) != len(args) {
		return api.Type{}, api.ErrArg
	}
	return substitute(params, args).checked(t)
}

// substitution has the types that stand for type parameters, and the first error of these types.
type substitution struct {
	params []string
	args   []api.Type
	wrong  api.Errno
}

func substitute(params []string, args []api.Type) substitution {
	s := substitution{params: params, args: args}
	for _, a := range args {
		if s.wrong == api.OK {
			s.wrong = Check(a)
		}
	}
	return s
}

// checked returns a type in which type parameters are replaced, or the error that Subst tells.
func (s substitution) checked(t api.Type) (api.Type, api.Errno) {
	if e := Check(t); e != api.OK {
		return api.Type{}, e
	}
	if s.wrong != api.OK {
		return api.Type{}, s.wrong
	}
	return whole(s.node(t))
}

// node replaces the type parameters in a type.
func (s substitution) node(t api.Type) (api.Type, api.Errno) {
	if t.Kind == api.TypeParam {
		return s.param(t), api.OK
	}
	args := t.Args
	t.Args = nil
	for i, a := range args {
		r, e := s.node(a)
		if e == api.OK && t.Kind == api.TypeArrow && i == 0 {
			r, e = left(r)
		}
		if e != api.OK {
			return api.Type{}, e
		}
		t.Args = append(t.Args, r)
	}
	return t, api.OK
}

// left returns what stands on the left of an arrow for a type that is put in there.
func left(t api.Type) (api.Type, api.Errno) {
	switch t.Kind {
	case api.TypeParam:
		return t, api.OK
	case api.TypeName, api.TypeSelf:
		return api.Type{Kind: api.TypeSelf, Cap: t.Cap, Mark: t.Mark}, api.OK
	}
	return api.Type{}, api.ErrForm
}

// param returns what stands for a type parameter.
func (s substitution) param(t api.Type) api.Type {
	i := slices.Index(s.params, t.Name)
	if i < 0 {
		return t
	}
	r := walk.Type(s.args[i])
	if t.Cap != api.CapNone {
		r = with(r, t.Cap)
	}
	changes := [...]func(c, mark int) (int, int){api.Ephemeral: cap.Consumed, api.Aliased: held}
	if t.Mark != api.Plain {
		r = remarked(r, changes[t.Mark])
	}
	return r
}

// held returns what a further reference has to what a variable holds, which is no more than one reference itself.
func held(c, mark int) (int, int) {
	if mark == api.Ephemeral {
		c, mark = cap.Alias(c, mark)
	}
	return cap.Alias(c, mark)
}

// Self returns a type in which the receiver has a capability.
func Self(t api.Type, c, mark int) (api.Type, api.Errno) {
	if e := Check(t); e != api.OK {
		return api.Type{}, e
	}
	if !cap.Is(c) {
		return api.Type{}, api.ErrCap
	}
	if mark < api.Plain || mark > api.Aliased {
		return api.Type{}, api.ErrArg
	}
	return whole(self(t, c, mark))
}

func self(t api.Type, c, mark int) (api.Type, api.Errno) {
	r := t
	r.Args = nil
	for _, a := range t.Args {
		s, e := self(a, c, mark)
		if e != api.OK {
			return api.Type{}, e
		}
		r.Args = append(r.Args, s)
	}
	switch {
	case t.Kind == api.TypeSelf && t.Cap == api.CapNone:
		r.Cap, r.Mark = c, mark
	case t.Kind == api.TypeArrow && r.Args[0].Kind == api.TypeSelf:
		return seen(counts(r.Args[0]), r.Args[1])
	}
	return r, api.OK
}

// Method returns a method in whose types type parameters are replaced.
func Method(m api.Method, params []string, args []api.Type) (api.Method, api.Errno) {
	if len(params) != len(args) {
		return api.Method{}, api.ErrArg
	}
	if !walk.Small(m.Body, api.MaxNodes, api.MaxTree) {
		return api.Method{}, api.ErrSize
	}
	first := api.OK
	s := substitute(params, args)
	replace := func(t api.Type) api.Type {
		if first != api.OK {
			return api.Type{}
		}
		if t.Kind == 0 {
			return walk.Type(t) // whatever else it has
		}
		t, first = s.checked(t)
		return t
	}
	r := m
	r.Bounds, r.Params = nil, nil
	for _, b := range m.Bounds {
		if !slices.Contains(params, b.Name) {
			r.Bounds = append(r.Bounds, api.Bound{Name: b.Name, Type: replace(b.Type)})
		}
	}
	for _, p := range m.Params {
		r.Params = append(r.Params, api.Param{Name: p.Name, Type: replace(p.Type)})
	}
	r.Result = replace(m.Result)
	r.Body = walk.Map(m.Body, replace)
	if first == api.OK {
		first = s.wrong // of a method without types, too
	}
	if first != api.OK {
		return api.Method{}, first
	}
	return r, api.OK
}
