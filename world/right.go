package world

import (
	"slices"
	"strings"

	"hackamore/api"
	"hackamore/num"
)

// isRight reports whether a state, of which the program is right, is right.
func (w *World) isRight() bool {
	s := &w.state
	if len(s.Actors) > api.MaxActors || len(s.Cells) > api.MaxCells || w.mail > api.MaxMail ||
		len(s.Trace) > api.MaxFuel || len(s.Output) > api.MaxFuel {
		return false
	}
	for i := range s.Actors {
		if !w.isRightActor(i) {
			return false
		}
	}
	return every(s.Cells, w.isRightCell)
}

// every reports whether something holds for all elements of a list.
func every[T any](l []T, holds func(T) bool) bool {
	return !slices.ContainsFunc(l, func(x T) bool { return !holds(x) })
}

func (w *World) isRightActor(number int) bool {
	a := w.state.Actors[number]
	if a.Type == "" {
		return len(a.Fields) == 0 && len(a.Mail) == 0
	}
	if w.kind(a.Type) != api.Actor || len(a.Fields) != len(w.entity(a.Type).Fields) || !w.areRight(a.Fields) {
		return false
	}
	return every(a.Mail, func(m api.Message) bool {
		return m.To == number && (m.From == -1 || w.wasActor(m.From)) && len(m.Name) <= api.MaxName && w.areGiven(m.Args)
	})
}

func (w *World) isRightCell(c api.Cell) bool {
	if c.Type == "" {
		return c.Owner == 0 && len(c.Fields) == 0 && c.Bytes == ""
	}
	if !w.wasActor(c.Owner) {
		return false
	}
	switch {
	case c.Type == stringName:
		return len(c.Fields) == 0 && len(c.Bytes) <= api.MaxSource
	case isArray(c.Type):
		return c.Bytes == "" && len(c.Fields) <= MaxElements && w.areGiven(c.Fields)
	}
	return w.kind(c.Type) == api.Class && c.Bytes == "" && len(c.Fields) == len(w.entity(c.Type).Fields) && w.areRight(c.Fields)
}

// isArray reports whether a name is that of an Array.
func isArray(name string) bool {
	return strings.HasPrefix(name, "Array[") && strings.HasSuffix(name, "]")
}

// wasActor reports whether a number is that of an actor, also of one that was taken away.
func (w *World) wasActor(n int) bool { return n >= 0 && n < len(w.state.Actors) }

// isActor reports whether a number is that of an actor that is there.
func (w *World) isActor(n int) bool { return w.wasActor(n) && w.state.Actors[n].Type != "" }

// isCell reports whether a number is that of an object that is there.
func (w *World) isCell(n int) bool {
	return n >= 0 && n < len(w.state.Cells) && w.state.Cells[n].Type != ""
}

func (w *World) areRight(l []api.Value) bool { return every(l, w.isRightValue) }

// areGiven reports whether values are right, and none of them is missing.
func (w *World) areGiven(l []api.Value) bool { return every(l, w.isGiven) }

func (w *World) isGiven(v api.Value) bool { return v.Kind != api.ValNone && w.isRightValue(v) }

func (w *World) isRightValue(v api.Value) bool { return w.isRightAt(v, 1) }

// isRightAt reports whether a value at a level of another one is right.
func (w *World) isRightAt(v api.Value, level int) bool {
	if level > api.MaxTree {
		return false
	}
	bare := v.Hi == 0 && v.Name == "" && len(v.Kids) == 0
	switch v.Kind {
	case api.ValNone:
		return bare && v.Lo == 0
	case api.ValObject:
		return bare && v.Lo < uint64(len(w.state.Cells)) && w.isCell(int(v.Lo))
	case api.ValActor:
		return bare && v.Lo < uint64(len(w.state.Actors)) && w.isActor(int(v.Lo))
	case api.ValUnit:
		return v.Lo == 0 && v.Hi == 0 && len(v.Kids) == 0 && w.kind(v.Name) == api.Primitive
	case api.ValTuple:
		return v.Lo == 0 && v.Hi == 0 && v.Name == "" && len(v.Kids) >= 2 && every(v.Kids, func(k api.Value) bool {
			return k.Kind != api.ValNone && w.isRightAt(k, level+1)
		})
	}
	return num.Check(v) == api.OK
}
