package lower

import (
	"strings"

	"hackamore/api"
	"hackamore/meaning"
	"hackamore/num"
	"hackamore/ssa"
	"hackamore/world"
)

// engine runs functions over a world.
type engine struct {
	*world.World
	funcs      map[string]*ssa.Func
	ready      map[string]*routine
	operations map[int]operation
	actor      int // for whom functions are run
	left, used int // fuel
	running    int // how many functions are being run
}

// routine is a function that is ready to be run: its values are numbered in order.
type routine struct {
	ssa.Func
	values int
	edges  [][]int // of each block and each of its To: the index of this way among those to the target
}

// activation is a function that is run.
type activation struct {
	*engine
	routine *routine
	values  []api.Value
	locals  map[string]api.Value
}

// stop leaves a run: with the outcome Empty or Wrong.
type stop struct {
	kind int
	code api.Errno
}

// Error is the text of the code.
func (s stop) Error() string { return s.code.Error() }

func wrong(e api.Errno) { panic(stop{meaning.Wrong, e}) }

func newEngine(f ssa.Program, w *world.World, fuel int) *engine {
	r := &engine{
		World: w, left: min(max(fuel, 0), api.MaxFuel), operations: operations(),
		funcs: make(map[string]*ssa.Func, len(f.Funcs)), ready: make(map[string]*routine),
	}
	for i := range f.Funcs {
		r.funcs[f.Funcs[i].Name] = &f.Funcs[i]
	}
	return r
}

// routine returns the function with a name, nil without one.
func (r *engine) routine(name string) *routine {
	x, known := r.ready[name]
	if known {
		return x
	}
	if f := r.funcs[name]; f != nil {
		x = newRoutine(*f)
	}
	r.ready[name] = x
	return x
}

func newRoutine(f ssa.Func) *routine {
	f, _ = ssa.Clean(f)
	x := &routine{Func: f, values: len(f.Params)}
	met := make([]int, len(f.Blocks))
	for _, b := range f.Blocks {
		x.values += len(b.Ins)
		if b.End.Kind == ssa.Try {
			x.values++
		}
		var edges []int
		for _, to := range b.End.To {
			edges = append(edges, met[to])
			met[to]++
		}
		x.edges = append(x.edges, edges)
	}
	return x
}

// spend uses fuel.
func (r *engine) spend() {
	if r.left == 0 {
		panic(stop{meaning.Empty, api.ErrSteps})
	}
	r.left--
	r.used++
}

// had returns what the world returned; its error ends the run.
func (r *engine) had(v api.Value, e api.Errno) api.Value {
	switch e {
	case api.OK:
	case api.ErrFull, api.ErrLarge, api.ErrDepth:
		panic(stop{meaning.Empty, e})
	default:
		wrong(e)
	}
	return v
}

// step lets an actor take a message; false, if none has mail.
func (r *engine) step(choice int) (end meaning.End, ok bool) {
	actor, ok := r.Choose(choice)
	if !ok {
		return meaning.End{Kind: meaning.Rest, Actor: -1}, false
	}
	defer func() {
		switch s := recover().(type) {
		case nil:
		case stop:
			end, ok = meaning.End{Kind: meaning.Stuck, Actor: actor, Code: s.code}, true
			if s.kind == meaning.Empty {
				end.Kind = meaning.Fuel
			}
		default:
			end, ok = meaning.End{Kind: meaning.Stuck, Actor: actor, Code: api.ErrState}, true
		}
	}()
	r.actor, r.running = actor, 0
	r.spend()
	m, _ := r.Take(actor)
	if _, raised := r.deliver(m); raised {
		wrong(api.ErrState)
	}
	return meaning.End{Kind: meaning.Rest, Actor: -1}, true
}

// deliver calls what a message asks for.
func (r *engine) deliver(m api.Message) (api.Value, bool) {
	to := api.Value{Kind: api.ValActor, Lo: uint64(m.To)}
	method, e := r.Method(r.Type(to), m.Name)
	switch {
	case e != api.OK || method.Kind != api.Be && method.Kind != api.New:
		wrong(world.ErrMethod)
	case len(method.Params) != len(m.Args):
		wrong(api.ErrSize)
	}
	return r.call(to, m.Name, m.Args)
}

// call calls a method of a value: its result, or true, if it ended with an error.
func (r *engine) call(receiver api.Value, name string, args []api.Value) (api.Value, bool) {
	typ := r.Type(receiver)
	if typ == "" {
		wrong(api.ErrType)
	}
	if f := r.routine(typ + "." + name); f != nil {
		return r.run(f, append([]api.Value{receiver}, args...))
	}
	return r.native(receiver, name, args)
}

// native calls a method that the runtime gives.
func (r *engine) native(receiver api.Value, name string, args []api.Value) (api.Value, bool) {
	v, raised, e := r.World.Call(r.actor, receiver, name, args)
	return r.had(v, e), raised
}

// run runs a function.
func (r *engine) run(f *routine, args []api.Value) (api.Value, bool) {
	if len(args) != len(f.Params) {
		wrong(api.ErrSize)
	}
	if r.running > meaning.MaxCalls {
		panic(stop{meaning.Empty, api.ErrDepth})
	}
	r.running++
	a := &activation{engine: r, routine: f, values: make([]api.Value, f.values), locals: make(map[string]api.Value)}
	copy(a.values, args)
	v, raised := a.blocks()
	r.running--
	return v, raised
}

// blocks runs the blocks of a function, from the first one on.
func (a *activation) blocks() (api.Value, bool) {
	at, edge := 0, -1
blocks:
	for {
		b := &a.routine.Blocks[at]
		a.instructions(b.Ins, edge)
		a.spend()
		way := 0
		switch l := a.there(b.End.Args); b.End.Kind {
		case ssa.Jump:
		case ssa.Branch:
			if l[0].Kind != api.ValBool || num.Check(l[0]) != api.OK {
				wrong(api.ErrType)
			}
			if l[0].Lo == 0 {
				way = 1
			}
		case ssa.Return:
			return l[0], false
		case ssa.Try:
			v, raised := a.attempt(&b.End.Call)
			if raised {
				way = 1
			} else {
				a.values[b.End.Call.Result] = v
			}
		case ssa.Error:
			if a.routine.Partial {
				return api.Value{}, true
			}
			break blocks
		default:
			break blocks
		}
		at, edge = b.End.To[way], a.routine.edges[at][way]
	}
	wrong(api.ErrState)
	return api.Value{}, false
}

// instructions runs those of a block that was entered by a way.
func (a *activation) instructions(l []ssa.Ins, edge int) {
	var phis []api.Value
	for i := range l {
		x := &l[i]
		a.spend()
		if x.Op == ssa.Phi {
			if edge < 0 {
				wrong(api.ErrForm)
			}
			phis = append(phis, a.values[x.Args[edge]])
			if i+1 < len(l) && l[i+1].Op == ssa.Phi {
				continue
			}
			for j, v := range phis {
				a.values[l[j].Result] = v
			}
			continue
		}
		v, raised := a.operations[x.Op](a, x, a.arguments(x))
		if raised {
			wrong(api.ErrState)
		}
		a.values[x.Result] = v
	}
}

// arguments returns the Args of an instruction, all of which have to be there but that of a store.
func (a *activation) arguments(x *ssa.Ins) []api.Value {
	if x.Op == ssa.Store {
		return []api.Value{a.values[x.Args[0]]}
	}
	return a.there(x.Args)
}

// there returns values that have to be there.
func (a *activation) there(args []int) []api.Value {
	l := make([]api.Value, len(args))
	for i, v := range args {
		l[i] = a.values[v]
		if l[i].Kind == api.ValNone {
			wrong(world.ErrUnset)
		}
	}
	return l
}

// attempt runs the Call of a try.
func (a *activation) attempt(x *ssa.Ins) (api.Value, bool) {
	if x.Op != ssa.Call && x.Op != ssa.Direct && x.Op != ssa.Native {
		wrong(api.ErrForm)
	}
	return a.operations[x.Op](a, x, a.there(x.Args))
}

// behindDot returns the part of a text behind its last dot.
func behindDot(s string) string { return s[strings.LastIndexByte(s, '.')+1:] }
