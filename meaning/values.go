package meaning

import (
	"strconv"
	"strings"

	"hackamore/api"
	"hackamore/num"
	"hackamore/world"
)

// operation is what an expression does with the values of its kids.
type operation func(f *frame, e *api.Expr, l []api.Value) outcome

// operations returns what those expressions do that need the values of all their kids, and nothing else of them.
func operations() map[int]operation {
	return map[int]operation{
		api.OpLit:     (*frame).literal,
		api.OpGet:     (*frame).get,
		api.OpSet:     (*frame).set,
		api.OpAssign:  (*frame).assign,
		api.OpCall:    (*frame).called,
		api.OpNew:     (*frame).made,
		api.OpRecover: (*frame).recovered,
		api.OpTuple:   (*frame).tuple,
		api.OpItem:    (*frame).item,
		api.OpIs:      (*frame).same,
		api.OpUnit:    (*frame).unit,
	}
}

func (f *frame) literal(e *api.Expr, l []api.Value) outcome {
	switch name := e.Types[0].Name; name {
	case "String":
		return f.had(f.w.Text(f.actor, e.Text))
	case "Bool":
		if e.Text != "true" && e.Text != "false" {
			return wrong(api.ErrForm)
		}
		return truth(e.Text == "true")
	default:
		v, err := num.Parse(name, e.Text)
		if err != api.OK {
			return wrong(err)
		}
		return valued(v)
	}
}

// isOther reports whether a value is another actor than the one for whom it is looked at.
func (f *frame) isOther(v api.Value) bool {
	return v.Kind == api.ValActor && (f.actor < 0 || v.Lo != uint64(f.actor))
}

func (f *frame) get(e *api.Expr, l []api.Value) outcome {
	if f.isOther(l[0]) {
		return wrong(api.ErrCap)
	}
	return f.had(f.w.Get(l[0], e.Text))
}

func (f *frame) set(e *api.Expr, l []api.Value) outcome {
	if f.isOther(l[0]) {
		return wrong(api.ErrCap)
	}
	old, err := f.w.Set(l[0], e.Text, l[1])
	if err != api.OK {
		return f.failed(err)
	}
	return before(old)
}

// before is the outcome of what there was: None, if there was nothing.
func before(old api.Value) outcome {
	if old.Kind == api.ValNone {
		return none()
	}
	return valued(old)
}

func (f *frame) assign(e *api.Expr, l []api.Value) outcome {
	i := f.find(e.Text)
	if i < 0 {
		return wrong(api.ErrScope)
	}
	old := f.locals[i].Value
	f.locals[i].Value = l[0]
	return before(old)
}

func (f *frame) called(e *api.Expr, l []api.Value) outcome { return f.call(l[0], e.Text, l[1:]) }

func (f *frame) made(e *api.Expr, l []api.Value) outcome {
	name := e.Types[0].Name
	if strings.HasPrefix(name, "Array[") && e.Text == "create" && len(l) == 0 {
		return f.had(f.w.Array(f.actor, name, nil))
	}
	if _, err := num.Kind(name); err == api.OK && e.Text == "create" && len(l) == 1 {
		if f.w.Type(l[0]) != name {
			return wrong(api.ErrType)
		}
		return valued(l[0])
	}
	switch f.kind(name) {
	case api.Class, api.Actor:
		return f.constructed(name, e.Text, l)
	case api.Primitive:
		return valued(api.Value{Kind: api.ValUnit, Name: name})
	}
	return wrong(world.ErrMethod)
}

// constructed makes an object, or an actor, by a constructor.
func (f *frame) constructed(name, constructor string, l []api.Value) outcome {
	m := f.method(name, constructor)
	if m == nil || m.Kind != api.New {
		return wrong(world.ErrMethod)
	}
	if len(m.Params) != len(l) {
		return wrong(api.ErrSize)
	}
	if f.kind(name) == api.Actor {
		actor := f.had(f.w.Spawn(name))
		if actor.kind != Value {
			return actor
		}
		if o := f.send(actor.value, constructor, l); o.kind != Value {
			return o
		}
		return actor
	}
	object := f.had(f.w.Make(f.actor, name))
	if object.kind != Value {
		return object
	}
	if o := f.run(m, object.value, l); o.kind != Value {
		return o
	}
	return object
}

func (f *frame) recovered(e *api.Expr, l []api.Value) outcome { return valued(l[0]) }

func (f *frame) tuple(e *api.Expr, l []api.Value) outcome {
	return valued(api.Value{Kind: api.ValTuple, Kids: l})
}

func (f *frame) item(e *api.Expr, l []api.Value) outcome {
	if l[0].Kind != api.ValTuple {
		return wrong(api.ErrType)
	}
	i, err := strconv.Atoi(e.Text)
	if err != nil || strconv.Itoa(i) != e.Text || i < 0 || i >= len(l[0].Kids) {
		return wrong(api.ErrRange)
	}
	return valued(l[0].Kids[i])
}

func (f *frame) same(e *api.Expr, l []api.Value) outcome { return truth(world.Same(l[0], l[1])) }

func (f *frame) unit(e *api.Expr, l []api.Value) outcome {
	return valued(api.Value{Kind: api.ValUnit, Name: e.Types[0].Name})
}
