package meaning

import (
	"hackamore/api"
	"hackamore/world"
)

// runner is what all evaluations of a run share.
type runner struct {
	w          *world.World
	actor      int // for whom expressions are evaluated
	left, used int // fuel
	bodies     int // how many are being run
	methods    map[named]*api.Method
	kinds      map[string]int // of entities; 0 for those that are not there
	operations map[int]operation
}

// named is a method by its name, and that of an entity.
type named struct{ typ, name string }

// stop leaves a run that is too deep, that a limit ends, or that has no fuel.
type stop struct{ code api.Errno }

// outcome is what comes of an evaluation.
type outcome struct {
	kind  int
	value api.Value
	code  api.Errno
}

func newRunner(w *world.World, fuel int) *runner {
	return &runner{
		w: w, left: min(max(fuel, 0), api.MaxFuel), operations: operations(),
		methods: make(map[named]*api.Method), kinds: make(map[string]int),
	}
}

func valued(v api.Value) outcome { return outcome{value: v} }

func none() outcome { return valued(api.Value{Kind: api.ValUnit, Name: "None"}) }

func truth(b bool) outcome {
	v := api.Value{Kind: api.ValBool}
	if b {
		v.Lo = 1
	}
	return valued(v)
}

func wrong(e api.Errno) outcome { return outcome{kind: Wrong, code: e} }

// guarded returns the outcome of what it does; of what is left by a stop that it is empty.
func (r *runner) guarded(do func() outcome) (o outcome) {
	defer func() {
		switch s := recover().(type) {
		case nil:
		case stop:
			o = outcome{kind: Empty, code: s.code}
		default:
			o = wrong(api.ErrState)
		}
	}()
	return do()
}

// spend uses fuel.
func (r *runner) spend() {
	if r.left == 0 {
		panic(stop{api.ErrSteps})
	}
	r.left--
	r.used++
}

// failed is the outcome of an error of the world.
func (r *runner) failed(e api.Errno) outcome {
	switch e {
	case api.ErrFull, api.ErrLarge, api.ErrDepth:
		panic(stop{e})
	}
	return wrong(e)
}

// had is the outcome of what the world returned.
func (r *runner) had(v api.Value, e api.Errno) outcome {
	if e != api.OK {
		return r.failed(e)
	}
	return valued(v)
}

// method returns the method of an entity, nil without one.
func (r *runner) method(typ, name string) *api.Method {
	key := named{typ, name}
	m, known := r.methods[key]
	if !known {
		if found, e := r.w.Method(typ, name); e == api.OK {
			m = &found
		}
		r.methods[key] = m
	}
	return m
}

// kind returns the kind of an entity.
func (r *runner) kind(name string) int {
	kind, known := r.kinds[name]
	if !known {
		e, _ := r.w.Entity(name)
		kind = e.Kind
		r.kinds[name] = kind
	}
	return kind
}

// step lets an actor take a message; false, if none has mail.
func (r *runner) step(choice int) (End, bool) {
	actor, ok := r.w.Choose(choice)
	if !ok {
		return End{Rest, -1, api.OK}, false
	}
	r.actor, r.bodies = actor, 0
	o := r.guarded(func() outcome {
		r.spend()
		m, _ := r.w.Take(actor)
		return r.deliver(m)
	})
	switch o.kind {
	case Value:
		return End{Rest, -1, api.OK}, true
	case Empty:
		return End{Fuel, actor, o.code}, true
	case Error:
		return End{Stuck, actor, api.ErrState}, true
	}
	return End{Stuck, actor, o.code}, true
}

// deliver runs what a message asks for.
func (r *runner) deliver(message api.Message) outcome {
	to := api.Value{Kind: api.ValActor, Lo: uint64(message.To)}
	m := r.method(r.w.Type(to), message.Name)
	switch {
	case m == nil || m.Kind != api.Be && m.Kind != api.New:
		return wrong(world.ErrMethod)
	case len(m.Params) != len(message.Args):
		return wrong(api.ErrSize)
	case m.Body.Op == 0:
		return r.native(to, message.Name, message.Args)
	}
	return r.run(m, to, message.Args)
}

// call calls a method of a value by its name.
func (r *runner) call(receiver api.Value, name string, args []api.Value) outcome {
	typ := r.w.Type(receiver)
	if typ == "" {
		return wrong(api.ErrType)
	}
	m := r.method(typ, name)
	switch {
	case m == nil || m.Body.Op == 0 && m.Kind != api.Be:
		return r.native(receiver, name, args)
	case m.Kind != api.Be && m.Kind != api.Fun:
		return wrong(world.ErrMethod)
	case m.Kind == api.Be && receiver.Kind != api.ValActor:
		return wrong(api.ErrType)
	case len(m.Params) != len(args):
		return wrong(api.ErrSize)
	case m.Kind == api.Be:
		return r.send(receiver, name, args)
	}
	return r.run(m, receiver, args)
}

// native calls a method that the runtime gives.
func (r *runner) native(receiver api.Value, name string, args []api.Value) outcome {
	v, raised, e := r.w.Call(r.actor, receiver, name, args)
	if raised {
		return outcome{kind: Error}
	}
	return r.had(v, e)
}

// send sends a message to an actor.
func (r *runner) send(to api.Value, name string, args []api.Value) outcome {
	if e := r.w.Send(api.Message{From: r.actor, To: int(to.Lo), Name: name, Args: args}); e != api.OK {
		return r.failed(e)
	}
	return none()
}

// run runs the body of a method.
func (r *runner) run(m *api.Method, this api.Value, args []api.Value) outcome {
	if r.bodies > MaxCalls {
		panic(stop{api.ErrDepth})
	}
	var locals []Local
	for i, p := range m.Params {
		locals = append(locals, Local{p.Name, args[i]})
	}
	r.bodies++
	f := &frame{runner: r, this: this, locals: once(locals)}
	o := f.eval(&m.Body)
	r.bodies--
	switch o.kind {
	case Value, Return:
		if m.Result.Kind == api.TypeName && m.Result.Name == "None" {
			return none()
		}
		return valued(o.value)
	case Error:
		if !m.Partial {
			return wrong(api.ErrState)
		}
	case Break, Continue:
		return wrong(api.ErrForm)
	}
	return o
}
