package meaning

import (
	"hackamore/api"
	"hackamore/walk"
)

func (f *frame) sequence(e *api.Expr) outcome {
	o := none()
	for i := range e.Kids {
		if o = f.eval(&e.Kids[i]); o.kind != Value {
			return o
		}
	}
	return o
}

func (f *frame) branch(e *api.Expr) outcome {
	holds, o := f.truth(&e.Kids[0])
	switch {
	case o.kind != Value:
		return o
	case holds:
		return f.eval(&e.Kids[1])
	}
	return f.perhaps(&e.Kids[2])
}

func (f *frame) loop(e *api.Expr) outcome {
	last, began := none(), false
rounds:
	for {
		holds, o := f.truth(&e.Kids[0])
		switch o.kind {
		case Value:
		case Continue:
			continue rounds
		case Break:
			return none()
		default:
			return o
		}
		if !holds {
			break rounds
		}
		began = true
		switch o = f.eval(&e.Kids[1]); o.kind {
		case Value:
			last = o
		case Continue:
			last = none()
		case Break:
			return none()
		default:
			return o
		}
	}
	if began {
		return last
	}
	return f.perhaps(&e.Kids[2])
}

func (f *frame) match(e *api.Expr) outcome {
	operand := f.eval(&e.Kids[0])
	if operand.kind != Value {
		return operand
	}
	for i := range e.Kids[1:] {
		c := &e.Kids[i+1]
		if c.Op != api.OpCase || !walk.Formed(c) {
			return wrong(api.ErrForm)
		}
		if !f.w.Is(operand.value, c.Types[0]) {
			continue
		}
		if c.Text != "" {
			f.bind(c.Text, operand.value)
		}
		if c.Kids[0].Op != 0 {
			holds, o := f.truth(&c.Kids[0])
			if o.kind != Value {
				return o
			}
			if !holds {
				continue
			}
		}
		return f.eval(&c.Kids[1])
	}
	return none()
}

func (f *frame) try(e *api.Expr) outcome {
	o := f.eval(&e.Kids[0])
	if o.kind == Error {
		o = f.perhaps(&e.Kids[1])
	}
	if o.kind == Wrong {
		return o
	}
	if then := f.perhaps(&e.Kids[2]); then.kind != Value {
		return then
	}
	return o
}
