package types

import (
	"hackamore/api"
	"hackamore/cap"
	"hackamore/walk"
)

// deed is what becomes of the parts of a type, and of an arrow on the way to them.
type deed struct {
	part  func(t api.Type) (api.Type, api.Errno)
	arrow func(d deed, t api.Type) (api.Type, api.Errno)
}

// do returns a type with all its parts replaced; the error is that of the first part that has one.
func (d deed) do(t api.Type) (r api.Type, e api.Errno) {
	switch t.Kind {
	case api.TypeArrow:
		return d.arrow(d, t)
	case api.TypeUnion, api.TypeBoth, api.TypeTuple:
		r = api.Type{Kind: t.Kind, Args: make([]api.Type, len(t.Args))}
		for i, a := range t.Args {
			if r.Args[i], e = d.do(a); e != api.OK {
				return api.Type{}, e
			}
		}
		return r, api.OK
	}
	r, e = d.part(t)
	r.Args = walk.Types(t.Args)
	return r, e
}

// stays leaves an arrow as it is, but for what becomes of its right side.
func stays(d deed, t api.Type) (api.Type, api.Errno) {
	right, e := d.do(t.Args[1])
	return api.Type{Kind: api.TypeArrow, Args: []api.Type{walk.Type(t.Args[0]), right}}, e
}

// vanishes takes the right side for an arrow.
func vanishes(d deed, t api.Type) (api.Type, api.Errno) { return d.do(t.Args[1]) }

// through takes what is seen of the right side through the left one for an arrow.
func through(d deed, t api.Type) (api.Type, api.Errno) {
	first := t.Args[0]
	if first.Cap == api.CapNone {
		return api.Type{}, api.ErrForm
	}
	r, e := seen(counts(first), t.Args[1])
	if e != api.OK {
		return api.Type{}, e
	}
	return d.do(r)
}

// counts returns what counts of the capability of a part.
func counts(t api.Type) int { return walk.Counts(t.Cap, t.Mark) }

// viewed returns the deed that gives each part what a function returns for what counts of it.
func viewed(view func(c int) (c2, mark int, ok bool)) deed {
	return deed{func(t api.Type) (api.Type, api.Errno) {
		if t.Cap == api.CapNone {
			return t, api.ErrForm
		}
		c, mark, ok := view(counts(t))
		if !ok {
			return t, api.ErrCap
		}
		t.Cap, t.Mark = c, mark
		return t, api.OK
	}, through}
}

func seen(origin int, t api.Type) (api.Type, api.Errno) {
	return viewed(func(c int) (int, int, bool) {
		c, ok := cap.View(origin, c)
		return c, api.Plain, ok
	}).do(t)
}

// with returns a type whose parts have a capability.
func with(t api.Type, c int) api.Type {
	t, _ = deed{func(t api.Type) (api.Type, api.Errno) {
		t.Cap, t.Mark = c, api.Plain
		return t, api.OK
	}, vanishes}.do(t)
	return t
}

// remarked returns a type whose parts have what a function returns for their capabilities and marks; a part without a
// capability has the mark of an iso.
func remarked(t api.Type, change func(c, mark int) (int, int)) api.Type {
	t, _ = deed{func(t api.Type) (api.Type, api.Errno) {
		if t.Cap == api.CapNone {
			_, t.Mark = change(api.Iso, t.Mark)
		} else {
			t.Cap, t.Mark = change(t.Cap, t.Mark)
		}
		return t, api.OK
	}, stays}.do(t)
	return t
}

// With returns a type whose capability is another one.
func With(t api.Type, c int) (api.Type, api.Errno) {
	if e := Check(t); e != api.OK {
		return api.Type{}, e
	}
	if !cap.Is(c) {
		return api.Type{}, api.ErrCap
	}
	return whole(with(t, c), api.OK)
}

// Aliased returns the type of a further reference.
func Aliased(t api.Type) (api.Type, api.Errno) {
	if e := Check(t); e != api.OK {
		return api.Type{}, e
	}
	return whole(remarked(t, cap.Alias), api.OK)
}

// Consumed returns the type of what is given up.
func Consumed(t api.Type) (api.Type, api.Errno) {
	if e := Check(t); e != api.OK {
		return api.Type{}, e
	}
	return whole(remarked(t, cap.Consumed), api.OK)
}

// Seen returns a type that is seen through an origin.
func Seen(origin int, t api.Type) (api.Type, api.Errno) {
	if e := Check(t); e != api.OK {
		return api.Type{}, e
	}
	if !cap.Is(origin) {
		return api.Type{}, api.ErrCap
	}
	return whole(seen(origin, t))
}

// Extracted returns the type of what a field had, when it is written through an origin.
func Extracted(origin int, t api.Type) (api.Type, api.Errno) {
	if e := Check(t); e != api.OK {
		return api.Type{}, e
	}
	if !cap.Is(origin) {
		return api.Type{}, api.ErrCap
	}
	return whole(viewed(func(c int) (int, int, bool) { return cap.Extract(origin, c) }).do(t))
}

// Recovered returns the type of a recovered value.
func Recovered(t api.Type, c int) (api.Type, api.Errno) {
	if e := Check(t); e != api.OK {
		return api.Type{}, e
	}
	if c != api.CapNone && !cap.Is(c) {
		return api.Type{}, api.ErrCap
	}
	return whole(viewed(func(from int) (int, int, bool) {
		r, _ := cap.Recover(from)
		switch {
		case c != api.CapNone:
			return c, api.Plain, cap.Sub(r, c)
		case r == api.Iso:
			return r, api.Ephemeral, true
		}
		return r, api.Plain, true
	}).do(t))
}

// every reports whether a type is well-formed, no arrow leads to its parts, and all of these have a capability and are
// as a function says.
func every(t api.Type, is func(t api.Type) bool) bool {
	if Check(t) != api.OK || walk.HasArrow(t) {
		return false
	}
	for p := range walk.Parts(t) {
		if p.Cap == api.CapNone || !is(p) {
			return false
		}
	}
	return true
}

// Storable reports whether a value of a type may be written into a field through an origin.
func Storable(origin int, t api.Type) bool {
	return every(t, func(p api.Type) bool { return cap.Store(origin, p.Cap, p.Mark) })
}

// Sendable reports whether values of a type may be sent.
func Sendable(t api.Type) bool {
	return every(t, func(p api.Type) bool { return cap.Sendable(counts(p)) })
}
