package world

import (
	"slices"

	"hackamore/api"
	"hackamore/num"
	"hackamore/subtype"
	"hackamore/walk"
)

// Make makes an object whose fields have no values.
func (w *World) Make(actor int, typ string) (api.Value, api.Errno) {
	if e := w.wrongActor(actor); e != api.OK {
		return api.Value{}, e
	}
	// An object without a name could not be told from one that was taken away.
	if typ == "" || w.kind(typ) != api.Class {
		return api.Value{}, ErrMethod
	}
	c := api.Cell{Type: typ, Owner: actor}
	if typ != stringName && !isArray(typ) {
		c.Fields = make([]api.Value, len(w.entity(typ).Fields))
	}
	return w.add(c)
}

// Text makes a String.
func (w *World) Text(actor int, bytes string) (api.Value, api.Errno) {
	if e := w.wrongActor(actor); e != api.OK {
		return api.Value{}, e
	}
	if len(bytes) > api.MaxSource {
		return api.Value{}, api.ErrLarge
	}
	return w.add(api.Cell{Type: stringName, Owner: actor, Bytes: bytes})
}

// Array makes an Array.
func (w *World) Array(actor int, typ string, l []api.Value) (api.Value, api.Errno) {
	if e := w.wrongActor(actor); e != api.OK {
		return api.Value{}, e
	}
	switch {
	case !isArray(typ):
		return api.Value{}, ErrMethod
	case len(l) > MaxElements:
		return api.Value{}, api.ErrFull
	case !w.areGiven(l):
		return api.Value{}, ErrBroken
	}
	return w.add(api.Cell{Type: typ, Owner: actor, Fields: walk.Values(l)})
}

// wrongActor returns the error of the number of an actor that is handed in.
func (w *World) wrongActor(actor int) api.Errno {
	switch {
	case w == nil:
		return api.ErrArg
	case !w.isActor(actor):
		return api.ErrNone
	}
	return api.OK
}

// add makes an object, if there is room for it.
func (w *World) add(c api.Cell) (api.Value, api.Errno) {
	if len(w.state.Cells) >= api.MaxCells {
		return api.Value{}, api.ErrFull
	}
	return w.put(c), api.OK
}

// put makes an object.
func (w *World) put(c api.Cell) api.Value {
	number := len(w.state.Cells)
	w.state.Cells = append(w.state.Cells, c)
	return api.Value{Kind: api.ValObject, Lo: uint64(number)}
}

// Drop takes an object away.
func (w *World) Drop(cell int) api.Errno {
	if w == nil {
		return api.ErrArg
	}
	if !w.isCell(cell) {
		return api.ErrNone
	}
	w.state.Cells[cell] = api.Cell{}
	return api.OK
}

// Get returns the value of a field.
func (w *World) Get(v api.Value, field string) (api.Value, api.Errno) {
	slot, e := w.slot(v, field)
	if e != api.OK {
		return api.Value{}, e
	}
	if slot.Kind == api.ValNone {
		return api.Value{}, ErrUnset
	}
	return walk.Value(*slot), api.OK
}

// Set changes a field, and returns what it had.
func (w *World) Set(v api.Value, field string, x api.Value) (api.Value, api.Errno) {
	slot, e := w.slot(v, field)
	if e != api.OK {
		return api.Value{}, e
	}
	if !w.isGiven(x) {
		return api.Value{}, ErrBroken
	}
	old := *slot
	*slot = walk.Value(x)
	return old, api.OK
}

// slot returns where the value of a field is kept.
func (w *World) slot(v api.Value, field string) (*api.Value, api.Errno) {
	if w == nil {
		return nil, api.ErrArg
	}
	if !w.isRightValue(v) {
		return nil, ErrBroken
	}
	names, values := w.fields(v)
	i := slices.IndexFunc(names, func(f api.Field) bool { return f.Name == field })
	if i < 0 {
		return nil, ErrMethod
	}
	return &values[i], api.OK
}

// fields returns the fields of a right value, and their values; none of what is neither an object of a class nor an actor.
func (w *World) fields(v api.Value) ([]api.Field, []api.Value) {
	switch {
	case v.Kind == api.ValActor:
		a := w.state.Actors[v.Lo]
		return w.entity(a.Type).Fields, a.Fields
	case v.Kind != api.ValObject:
		return nil, nil
	}
	c := w.state.Cells[v.Lo]
	if c.Type == stringName || isArray(c.Type) {
		return nil, nil
	}
	return w.entity(c.Type).Fields, c.Fields
}

// Type returns the name of the entity of a value, "" for a tuple or none.
func (w *World) Type(v api.Value) string {
	switch {
	case w == nil:
		return ""
	case v.Kind == api.ValBool:
		return "Bool"
	case v.Kind == api.ValUnit:
		return v.Name
	case v.Kind == api.ValObject && v.Lo < uint64(len(w.state.Cells)):
		return w.state.Cells[v.Lo].Type
	case v.Kind == api.ValActor && v.Lo < uint64(len(w.state.Actors)):
		return w.state.Actors[v.Lo].Type
	}
	name, _ := num.Name(v.Kind)
	return name
}

// Is reports whether a value is of a type, without regard to capabilities.
func (w *World) Is(v api.Value, t api.Type) bool {
	return w != nil && w.isRightValue(v) && w.isOf(v, t)
}

// isOf reports whether a right value is of a type.
func (w *World) isOf(v api.Value, t api.Type) bool {
	one := func(a api.Type) bool { return w.isOf(v, a) }
	switch t.Kind {
	case api.TypeName:
		return w.isNamed(w.Type(v), t)
	case api.TypeUnion:
		return slices.ContainsFunc(t.Args, one)
	case api.TypeBoth:
		return every(t.Args, one)
	case api.TypeTuple:
		if v.Kind != api.ValTuple || len(v.Kids) != len(t.Args) {
			return false
		}
		for i, a := range t.Args {
			if !w.isOf(v.Kids[i], a) {
				return false
			}
		}
		return true
	case api.TypeArrow:
		return len(t.Args) >= 2 && w.isOf(v, t.Args[1])
	}
	return false
}

// isNamed reports whether values of an entity are of a type that is a name.
func (w *World) isNamed(typ string, t api.Type) bool {
	own := api.Type{Kind: api.TypeName, Name: typ, Cap: api.Val}
	return typ != "" && subtype.Bare(w.state.Program, own, t)
}

// Same reports whether two values are the same.
func Same(a, b api.Value) bool {
	return a.Kind == b.Kind && a.Lo == b.Lo && a.Hi == b.Hi && a.Name == b.Name && slices.EqualFunc(a.Kids, b.Kids, Same)
}
