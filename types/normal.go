package types

import (
	"slices"
	"strings"

	"hackamore/api"
)

// Normal returns the normal form of a type.
func Normal(t api.Type) (api.Type, api.Errno) {
	if e := Check(t); e != api.OK {
		return api.Type{}, e
	}
	return whole(normal(t))
}

// Union returns the union of types.
func Union(l []api.Type) (api.Type, api.Errno) {
	if len(l) == 0 {
		return api.Type{}, api.ErrArg
	}
	for _, t := range l {
		if e := Check(t); e != api.OK {
			return api.Type{}, e
		}
	}
	return whole(normal(api.Type{Kind: api.TypeUnion, Args: l}))
}

// normal returns the normal form of a type whose Args may be too many.
func normal(t api.Type) (api.Type, api.Errno) {
	r := t
	r.Args = nil
	for _, a := range t.Args {
		n, e := normal(a)
		if e != api.OK {
			return api.Type{}, e
		}
		r.Args = append(r.Args, n)
	}
	switch {
	case t.Kind == api.TypeUnion || t.Kind == api.TypeBoth:
		return ordered(r), api.OK
	case t.Kind == api.TypeArrow && r.Args[0].Kind == api.TypeSelf && r.Args[0].Cap != api.CapNone:
		s, e := seen(counts(r.Args[0]), r.Args[1])
		if e != api.OK {
			return api.Type{}, e
		}
		return normal(s)
	case t.Cap >= api.Ref:
		r.Mark = api.Plain
	}
	return r, api.OK
}

// ordered returns a union, or an intersection, of normal Args: without brackets, in order, equal ones once.
func ordered(t api.Type) api.Type {
	type keyed struct {
		text string
		arg  api.Type
	}
	var l []keyed
	add := func(a api.Type) { l = append(l, keyed{text(a), a}) }
	for _, a := range t.Args {
		if a.Kind != t.Kind {
			add(a)
			continue
		}
		for _, inner := range a.Args {
			add(inner)
		}
	}
	slices.SortStableFunc(l, func(a, b keyed) int { return strings.Compare(a.text, b.text) })
	l = slices.CompactFunc(l, func(a, b keyed) bool { return a.text == b.text })
	if len(l) == 1 {
		return l[0].arg
	}
	t.Args = nil
	for _, k := range l {
		t.Args = append(t.Args, k.arg)
	}
	return t
}
