package world

import (
	"slices"

	"hackamore/api"
	"hackamore/walk"
)

// Ready returns the actors that have mail, ascending.
func (w *World) Ready() []int {
	if w == nil {
		return nil
	}
	var l []int
	for i, a := range w.state.Actors {
		if len(a.Mail) > 0 {
			l = append(l, i)
		}
	}
	return l
}

// Choose returns the actor that a number of a script chooses.
func (w *World) Choose(choice int) (int, bool) {
	l := w.Ready()
	if len(l) == 0 {
		return 0, false
	}
	i := choice % len(l)
	if i < 0 {
		i += len(l)
	}
	return l[i], true
}

// Take takes the oldest message of an actor.
func (w *World) Take(actor int) (api.Message, api.Errno) {
	if w == nil {
		return api.Message{}, api.ErrArg
	}
	if !w.isActor(actor) || len(w.state.Actors[actor].Mail) == 0 {
		return api.Message{}, api.ErrNone
	}
	a := &w.state.Actors[actor]
	m := a.Mail[0]
	a.Mail = slices.Delete(a.Mail, 0, 1)
	w.mail--
	return m, api.OK
}

// Send puts a message into the mail of its receiver.
func (w *World) Send(m api.Message) api.Errno {
	if w == nil {
		return api.ErrArg
	}
	if !w.isActor(m.To) || m.From != -1 && !w.wasActor(m.From) {
		return api.ErrNone
	}
	if len(m.Name) > api.MaxName {
		return api.ErrSize
	}
	if !w.areGiven(m.Args) {
		return ErrBroken
	}
	s := api.Send{From: m.From, To: m.To, Name: m.Name}
	for _, v := range m.Args {
		text, e := w.Show(v)
		if e != api.OK {
			return e
		}
		s.Args = append(s.Args, text)
	}
	if w.mail >= api.MaxMail || len(w.state.Trace) >= api.MaxFuel {
		return api.ErrFull
	}
	m.Args = walk.Values(m.Args)
	w.post(m)
	w.state.Trace = append(w.state.Trace, s)
	return api.OK
}

// post puts a message behind the mail of its receiver.
func (w *World) post(m api.Message) {
	a := &w.state.Actors[m.To]
	a.Mail = append(a.Mail, m)
	w.mail++
}

// Spawn makes an actor.
func (w *World) Spawn(typ string) (api.Value, api.Errno) {
	if w == nil {
		return api.Value{}, api.ErrArg
	}
	// An actor without a name could not be told from one that was taken away.
	if typ == "" || w.kind(typ) != api.Actor {
		return api.Value{}, ErrMethod
	}
	if len(w.state.Actors) >= api.MaxActors {
		return api.Value{}, api.ErrFull
	}
	return w.spawn(typ), api.OK
}

// spawn makes an actor of an entity that is one.
func (w *World) spawn(typ string) api.Value {
	number := len(w.state.Actors)
	w.state.Actors = append(w.state.Actors, Actor{Type: typ, Fields: make([]api.Value, len(w.entity(typ).Fields))})
	return api.Value{Kind: api.ValActor, Lo: uint64(number)}
}

// Remove takes an actor away.
func (w *World) Remove(actor int) api.Errno {
	if w == nil {
		return api.ErrArg
	}
	if !w.isActor(actor) {
		return api.ErrNone
	}
	if len(w.state.Actors[actor].Mail) > 0 {
		return api.ErrState
	}
	w.state.Actors[actor] = Actor{}
	return api.OK
}
