package lower

import (
	"strings"

	"hackamore/api"
	"hackamore/ssa"
	"hackamore/world"
)

// operation is what an instruction does with its arguments: its result, or true, if it ended with an error.
type operation func(a *activation, x *ssa.Ins, l []api.Value) (api.Value, bool)

// operations returns what instructions do, but phis.
func operations() map[int]operation {
	return map[int]operation{
		ssa.Const:  (*activation).constant,
		ssa.Text:   (*activation).text,
		ssa.Load:   (*activation).load,
		ssa.Store:  (*activation).store,
		ssa.Get:    (*activation).get,
		ssa.Set:    (*activation).set,
		ssa.Make:   (*activation).create,
		ssa.Call:   (*activation).called,
		ssa.Direct: (*activation).direct,
		ssa.Native: (*activation).intrinsic,
		ssa.Spawn:  (*activation).spawn,
		ssa.Send:   (*activation).send,
		ssa.Tuple:  (*activation).tuple,
		ssa.Item:   (*activation).item,
		ssa.Is:     (*activation).same,
		ssa.Fits:   (*activation).fits,
	}
}

func (a *activation) constant(x *ssa.Ins, l []api.Value) (api.Value, bool) { return x.Lit, false }

func (a *activation) text(x *ssa.Ins, l []api.Value) (api.Value, bool) {
	return a.had(a.Text(a.actor, x.Text)), false
}

func (a *activation) load(x *ssa.Ins, l []api.Value) (api.Value, bool) {
	v := a.locals[x.Text]
	if v.Kind == api.ValNone {
		wrong(world.ErrUnset)
	}
	return v, false
}

// before returns what there was: None, if there was nothing.
func before(v api.Value) api.Value {
	if v.Kind == api.ValNone {
		return unit("None")
	}
	return v
}

func (a *activation) store(x *ssa.Ins, l []api.Value) (api.Value, bool) {
	old := a.locals[x.Text]
	a.locals[x.Text] = l[0]
	return before(old), false
}

// own refuses the fields of another actor than the one for whom the function is run.
func (a *activation) own(v api.Value) {
	if v.Kind == api.ValActor && v.Lo != uint64(a.actor) {
		wrong(api.ErrCap)
	}
}

func (a *activation) get(x *ssa.Ins, l []api.Value) (api.Value, bool) {
	a.own(l[0])
	return a.had(a.Get(l[0], x.Text)), false
}

func (a *activation) set(x *ssa.Ins, l []api.Value) (api.Value, bool) {
	a.own(l[0])
	return before(a.had(a.Set(l[0], x.Text, l[1]))), false
}

func (a *activation) create(x *ssa.Ins, l []api.Value) (api.Value, bool) {
	if strings.HasPrefix(x.Text, "Array[") && strings.HasSuffix(x.Text, "]") {
		return a.had(a.Array(a.actor, x.Text, nil)), false
	}
	return a.had(a.Make(a.actor, x.Text)), false
}

func (a *activation) called(x *ssa.Ins, l []api.Value) (api.Value, bool) {
	return a.call(l[0], x.Text, l[1:])
}

func (a *activation) direct(x *ssa.Ins, l []api.Value) (api.Value, bool) {
	f := a.engine.routine(x.Text)
	if f == nil {
		wrong(world.ErrMethod)
	}
	return a.run(f, l)
}

func (a *activation) intrinsic(x *ssa.Ins, l []api.Value) (api.Value, bool) {
	if len(l) == 0 {
		wrong(world.ErrBroken)
	}
	return a.native(l[0], behindDot(x.Text), l[1:])
}

func (a *activation) spawn(x *ssa.Ins, l []api.Value) (api.Value, bool) {
	e, err := a.Entity(x.Name)
	if err != api.OK || e.Kind != api.Actor {
		wrong(world.ErrMethod)
	}
	m, err := a.Method(x.Name, x.Text)
	if err != api.OK || m.Kind != api.New {
		wrong(world.ErrMethod)
	}
	if len(m.Params) != len(l) {
		wrong(api.ErrSize)
	}
	v := a.had(a.Spawn(x.Name))
	a.post(v, x.Text, l)
	return v, false
}

func (a *activation) post(to api.Value, name string, l []api.Value) {
	e := a.World.Send(api.Message{From: a.actor, To: int(to.Lo), Name: name, Args: l})
	a.had(api.Value{}, e)
}

func (a *activation) send(x *ssa.Ins, l []api.Value) (api.Value, bool) {
	if l[0].Kind != api.ValActor {
		wrong(api.ErrType)
	}
	a.post(l[0], x.Text, l[1:])
	return unit("None"), false
}

func (a *activation) tuple(x *ssa.Ins, l []api.Value) (api.Value, bool) {
	return api.Value{Kind: api.ValTuple, Kids: l}, false
}

func (a *activation) item(x *ssa.Ins, l []api.Value) (api.Value, bool) {
	switch {
	case l[0].Kind != api.ValTuple:
		wrong(api.ErrType)
	case x.N >= len(l[0].Kids):
		wrong(api.ErrRange)
	}
	return l[0].Kids[x.N], false
}

func (a *activation) same(x *ssa.Ins, l []api.Value) (api.Value, bool) {
	return truth(world.Same(l[0], l[1])), false
}

func (a *activation) fits(x *ssa.Ins, l []api.Value) (api.Value, bool) {
	return truth(a.Is(l[0], x.Type)), false
}
