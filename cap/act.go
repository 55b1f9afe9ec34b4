package cap

import (
	"slices"

	"hackamore/api"
)

// Act is something that a holder does.
type Act struct{ Op, Holder, A, B, C, D int }

// Operations of acts.
const (
	Make = iota
	Copy
	Move
	Read
	Write
	Give
	Drop
)

// turn is an act that is being done, in a yard that is its own.
type turn struct {
	Yard
	Act
}

// acts returns what is done for each operation.
func acts() map[int]func(*turn) api.Errno {
	return map[int]func(*turn) api.Errno{
		Make:  (*turn).make,
		Copy:  (*turn).copy,
		Move:  (*turn).move,
		Read:  (*turn).read,
		Write: (*turn).write,
		Give:  (*turn).give,
		Drop:  (*turn).drop,
	}
}

// Do returns a yard behind an act.
func Do(y Yard, a Act) (Yard, api.Errno) {
	if e := Check(y); e != api.OK {
		return Yard{}, e
	}
	if a.Holder < 0 || a.Holder >= len(y.Holders) {
		return Yard{}, api.ErrRange
	}
	do, ok := acts()[a.Op]
	if !ok {
		return Yard{}, api.ErrArg
	}
	t := &turn{y.copied(), a}
	if e := do(t); e != api.OK {
		return Yard{}, e
	}
	if !t.small() { // it was no larger than it may be ahead of the act
		return Yard{}, api.ErrFull
	}
	return t.Yard, api.OK
}

// held returns the reference of the acting holder with an index.
func (t *turn) held(i int) (Held, bool) {
	l := t.Holders[t.Holder]
	if i < 0 || i >= len(l) {
		return Held{}, false
	}
	return l[i], true
}

// gets adds a reference to those of a holder.
func (t *turn) gets(holder int, h Held) {
	t.Holders[holder] = append(t.Holders[holder], h)
}

// gives takes a reference of the acting holder away.
func (t *turn) gives(i int) {
	t.Holders[t.Holder] = slices.Delete(t.Holders[t.Holder], i, i+1)
}

// handed returns what a plain reference becomes when it is given up (how is 1), or copied (how is 0).
func handed(c, how int) (int, int) {
	if how == 1 {
		return Consumed(c, api.Plain)
	}
	return Alias(c, api.Plain)
}

// handedFits reports whether a plain reference that is given up, or copied, may be held as c.
func handedFits(from, how, c int) bool {
	got, mark := handed(from, how)
	return Fits(got, mark, c, api.Plain)
}

func (t *turn) make() api.Errno {
	if !Is(t.A) || !Is(t.B) || !Is(t.C) {
		return api.ErrCap
	}
	t.gets(t.Holder, Held{len(t.Fields), t.C})
	t.Fields = append(t.Fields, []Held{{-1, t.A}, {-1, t.B}})
	return api.OK
}

func (t *turn) copy() api.Errno {
	h, ok := t.held(t.A)
	if !ok {
		return api.ErrRange
	}
	if !handedFits(h.Cap, 0, t.B) {
		return api.ErrCap
	}
	t.gets(t.Holder, Held{h.Thing, t.B})
	return api.OK
}

func (t *turn) move() api.Errno {
	h, ok := t.held(t.A)
	if !ok {
		return api.ErrRange
	}
	if !handedFits(h.Cap, 1, t.B) {
		return api.ErrCap
	}
	t.Holders[t.Holder][t.A].Cap = t.B
	return api.OK
}

// field returns the field that an act names by A and B, and the capability through which it is reached.
func (t *turn) field() (f *Held, origin int, ok bool) {
	h, ok := t.held(t.A)
	if !ok || t.B < 0 || t.B >= fieldCount {
		return nil, 0, false
	}
	return &t.Fields[h.Thing][t.B], h.Cap, true
}

func (t *turn) read() api.Errno {
	f, origin, ok := t.field()
	if !ok {
		return api.ErrRange
	}
	c, ok := View(origin, f.Cap)
	switch {
	case !ok:
		return api.ErrCap
	case f.Thing < 0:
		return api.ErrNone
	case !handedFits(c, 0, t.C):
		return api.ErrCap
	}
	t.gets(t.Holder, Held{f.Thing, t.C})
	return api.OK
}

func (t *turn) write() api.Errno {
	f, origin, ok := t.field()
	if !ok {
		return api.ErrRange
	}
	value, ok := t.held(t.C)
	if !ok {
		return api.ErrRange
	}
	if t.D != 0 && t.D != 1 || t.D == 1 && t.C == t.A {
		return api.ErrArg
	}
	c, mark := handed(value.Cap, t.D)
	if !Fits(c, mark, f.Cap, api.Plain) || !Store(origin, c, mark) {
		return api.ErrCap
	}
	old := f.Thing
	f.Thing = value.Thing
	if t.D == 1 {
		t.gives(t.C)
	}
	if got, _, ok := Extract(origin, f.Cap); ok && old >= 0 {
		t.gets(t.Holder, Held{old, got})
	}
	return api.OK
}

func (t *turn) give() api.Errno {
	if t.B < 0 || t.B >= len(t.Holders) {
		return api.ErrRange
	}
	if t.B == t.Holder {
		return api.ErrArg
	}
	h, ok := t.held(t.A)
	if !ok {
		return api.ErrRange
	}
	if t.D != 0 && t.D != 1 {
		return api.ErrArg
	}
	if !Sendable(t.C) || !handedFits(h.Cap, t.D, t.C) {
		return api.ErrCap
	}
	if t.D == 1 {
		t.gives(t.A)
	}
	t.gets(t.B, Held{h.Thing, t.C})
	return api.OK
}

func (t *turn) drop() api.Errno {
	if _, ok := t.held(t.A); !ok {
		return api.ErrRange
	}
	t.gives(t.A)
	return api.OK
}
