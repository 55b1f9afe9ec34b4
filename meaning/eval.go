package meaning

import (
	"slices"

	"hackamore/api"
	"hackamore/num"
	"hackamore/walk"
	"hackamore/world"
)

// frame is where expressions of a body are evaluated: the receiver, and the local variables.
type frame struct {
	*runner
	this   api.Value
	locals []Local
}

// find returns the index of a local variable, -1 without one.
func (f *frame) find(name string) int {
	return slices.IndexFunc(f.locals, func(l Local) bool { return l.Name == name })
}

// bind gives a local variable a value; it becomes the last one, if it is new.
func (f *frame) bind(name string, v api.Value) {
	i := f.find(name)
	if i < 0 {
		i = len(f.locals)
		f.locals = append(f.locals, Local{Name: name})
	}
	f.locals[i].Value = v
}

// eval evaluates an expression.
func (f *frame) eval(e *api.Expr) outcome {
	f.spend()
	if !walk.Formed(e) {
		return wrong(api.ErrForm)
	}
	switch e.Op {
	case api.OpLocal, api.OpConsume:
		return f.local(e)
	case api.OpThis:
		return valued(f.this)
	case api.OpVar, api.OpLet:
		return f.declare(e)
	case api.OpSeq:
		return f.sequence(e)
	case api.OpIf:
		return f.branch(e)
	case api.OpWhile:
		return f.loop(e)
	case api.OpMatch:
		return f.match(e)
	case api.OpTry:
		return f.try(e)
	case api.OpError:
		return outcome{kind: Error}
	case api.OpReturn:
		return f.leave(e)
	case api.OpBreak:
		return outcome{kind: Break}
	case api.OpContinue:
		return outcome{kind: Continue}
	}
	do, ok := f.operations[e.Op]
	if !ok {
		return wrong(api.ErrForm)
	}
	l, o := f.values(e.Kids)
	if o.kind != Value {
		return o
	}
	return do(f, e, l)
}

// values evaluates expressions one by one, as long as they have values; its outcome is a Value if all have.
func (f *frame) values(kids []api.Expr) ([]api.Value, outcome) {
	l := make([]api.Value, 0, len(kids))
	for i := range kids {
		o := f.eval(&kids[i])
		if o.kind != Value {
			return nil, o
		}
		l = append(l, o.value)
	}
	return l, outcome{}
}

// perhaps evaluates an expression that may be none; then it is None.
func (f *frame) perhaps(e *api.Expr) outcome {
	if e.Op == 0 {
		return none()
	}
	return f.eval(e)
}

// truth evaluates a condition: it must be a Bool.
func (f *frame) truth(e *api.Expr) (bool, outcome) {
	o := f.eval(e)
	if o.kind == Value && (o.value.Kind != api.ValBool || num.Check(o.value) != api.OK) {
		o = wrong(api.ErrType)
	}
	return o.kind == Value && o.value.Lo == 1, o
}

func (f *frame) local(e *api.Expr) outcome {
	i := f.find(e.Text)
	if i < 0 {
		return wrong(api.ErrScope)
	}
	v := f.locals[i].Value
	if v.Kind == api.ValNone {
		return wrong(world.ErrUnset)
	}
	if e.Op == api.OpConsume {
		f.locals[i].Value = api.Value{}
	}
	return valued(v)
}

func (f *frame) declare(e *api.Expr) outcome {
	l, o := f.values(e.Kids)
	if o.kind != Value {
		return o
	}
	var v api.Value
	if len(l) > 0 {
		v = l[0]
	}
	f.bind(e.Text, v)
	return none()
}

func (f *frame) leave(e *api.Expr) outcome {
	o := none()
	if len(e.Kids) > 0 {
		o = f.eval(&e.Kids[0])
	}
	if o.kind == Value {
		o.kind = Return
	}
	return o
}
