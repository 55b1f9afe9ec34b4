package check

import (
	"slices"
	"strconv"
	"unicode/utf8"

	"hackamore/api"
	"hackamore/bodies"
	"hackamore/cap"
	"hackamore/num"
	"hackamore/subtype"
	"hackamore/types"
	"hackamore/walk"
)

// rule is what is asked for: the type of an expression in its context, by those of its Kids.
type rule struct {
	program []api.Entity
	c       Context
	x       api.Expr
	kids    []api.Type
}

// rules returns the rules by operations.
func rules() [api.OpLast + 1]func(r rule) (api.Type, api.Errno) {
	return [...]func(r rule) (api.Type, api.Errno){
		api.OpLit:      rule.literal,
		api.OpLocal:    rule.local,
		api.OpThis:     rule.this,
		api.OpGet:      rule.get,
		api.OpSet:      rule.set,
		api.OpVar:      rule.declare,
		api.OpLet:      rule.declare,
		api.OpAssign:   rule.assign,
		api.OpConsume:  rule.consume,
		api.OpSeq:      rule.seq,
		api.OpIf:       rule.branch,
		api.OpWhile:    rule.loop,
		api.OpMatch:    rule.match,
		api.OpCase:     rule.oneCase,
		api.OpTry:      rule.attempt,
		api.OpError:    rule.leave,
		api.OpReturn:   rule.giveBack,
		api.OpBreak:    rule.leave,
		api.OpContinue: rule.leave,
		api.OpCall:     rule.call,
		api.OpNew:      rule.construct,
		api.OpRecover:  rule.recovered,
		api.OpTuple:    rule.tuple,
		api.OpItem:     rule.item,
		api.OpIs:       rule.same,
		api.OpUnit:     rule.unit,
	}
}

// Rule returns the type of an expression, by those of its Kids.
func Rule(p []api.Entity, c Context, x api.Expr, kids []api.Type) (api.Type, api.Errno) {
	switch {
	case len(kids) != len(x.Kids):
		return api.Type{}, api.ErrSize
	case !bodies.IsMethod(p, c.Entity, c.Method):
		return api.Type{}, api.ErrRange
	case !formed(x):
		return api.Type{}, api.ErrForm
	}
	t, e := rules()[x.Op](rule{p, c, x, kids})
	if e != api.OK {
		return api.Type{}, e
	}
	return walk.Type(t), api.OK
}

// boolean returns the type of Bool.
func boolean() api.Type { return types.Named("Bool", api.Val, nil) }

func (r rule) entity() api.Entity { return r.program[r.c.Entity] }

func (r rule) method() api.Method { return r.entity().Methods[r.c.Method] }

// receiver returns the capability of the receiver.
func (r rule) receiver() int { return bodies.Receiver(r.entity(), r.method()) }

func (r rule) fits(a, b api.Type) bool { return bodies.Fits(r.program, a, b) }

// orNone returns the type of a Kid, or that of None, if it is none.
func (r rule) orNone(i int) api.Type {
	if r.x.Kids[i].Op == 0 {
		return bodies.None()
	}
	return r.kids[i]
}

// union returns the union of those types that are not the zero Type.
func union(l ...api.Type) (api.Type, api.Errno) {
	l = slices.DeleteFunc(slices.Clone(l), walk.IsZero)
	if len(l) == 0 {
		return api.Type{}, api.OK
	}
	return types.Union(l)
}

func (r rule) literal() (api.Type, api.Errno) {
	t, s := r.x.Types[0], r.x.Text
	switch t.Name {
	case "Bool":
		if s != "true" && s != "false" {
			return t, api.ErrForm
		}
	case "String":
		if !utf8.ValidString(s) {
			return t, api.ErrForm
		}
	default:
		if _, e := num.Parse(t.Name, s); e != api.OK {
			return t, e
		}
	}
	return types.With(t, api.Val)
}

// found returns the local variable with the name of the expression, if it is seen here.
func (r rule) found() (Local, bool) {
	for _, l := range slices.Backward(r.c.Locals) {
		if l.Name == r.x.Text {
			return l, l.Region == 0 || slices.Contains(r.c.Regions, l.Region)
		}
	}
	return Local{}, false
}

// used returns the type of the local variable that is looked at, or given up.
func (r rule) used() (api.Type, api.Errno) {
	l, ok := r.found()
	switch {
	case !ok:
		return api.Type{}, api.ErrScope
	case l.Region != r.c.region() && !types.Sendable(l.Type):
		return api.Type{}, ErrSend
	}
	return l.Type, api.OK
}

func (r rule) local() (api.Type, api.Errno) {
	t, e := r.used()
	if e != api.OK {
		return t, e
	}
	return bodies.LookedAt(t)
}

func (r rule) consume() (api.Type, api.Errno) {
	t, e := r.used()
	if e != api.OK {
		return t, e
	}
	return types.Consumed(t)
}

func (r rule) this() (api.Type, api.Errno) {
	t, e := types.Aliased(types.Named(r.entity().Name, r.receiver(), nil))
	if e == api.OK && r.c.region() != 0 && !types.Sendable(t) {
		e = ErrSend
	}
	return t, e
}

func (r rule) declare() (api.Type, api.Errno) {
	t := r.x.Types[0]
	switch {
	case !isStored(t):
		return t, api.ErrForm
	case len(r.kids) > 0 && !r.fits(r.kids[0], t):
		return t, ErrResult
	}
	return bodies.None(), api.OK
}

func (r rule) assign() (api.Type, api.Errno) {
	l, ok := r.found()
	switch {
	case !ok:
		return l.Type, api.ErrScope
	case l.Param:
		return l.Type, ErrPlace
	case l.Region != r.c.region():
		return l.Type, ErrSend
	case !r.fits(r.kids[0], l.Type):
		return l.Type, ErrResult
	}
	old, e := types.Consumed(l.Type)
	if e == api.OK && !l.Always {
		return union(old, bodies.None())
	}
	return old, e
}

// field returns the field of the first Kid that has the name of the expression.
func (r rule) field() (api.Field, api.Errno) {
	t := r.kids[0]
	i, e := subtype.Find(r.program, t.Name)
	if t.Kind != api.TypeName || e != api.OK || r.program[i].Kind != api.Class && r.program[i].Kind != api.Actor {
		return api.Field{}, api.ErrType
	}
	for _, f := range r.program[i].Fields {
		if f.Name == r.x.Text {
			return f, api.OK
		}
	}
	return api.Field{}, api.ErrNone
}

// origin returns what counts of the capability of the first Kid.
func (r rule) origin() int { return walk.Counts(r.kids[0].Cap, r.kids[0].Mark) }

func (r rule) get() (api.Type, api.Errno) {
	f, e := r.field()
	if e != api.OK {
		return f.Type, e
	}
	t, e := types.Seen(r.origin(), f.Type)
	if e == api.OK {
		t, e = types.Aliased(t)
	}
	if e != api.OK {
		return t, ErrView
	}
	return t, api.OK
}

func (r rule) set() (api.Type, api.Errno) {
	f, e := r.field()
	starts := r.x.Kids[0].Op == api.OpThis && r.method().Kind == api.New
	switch {
	case e != api.OK:
		return f.Type, e
	case f.Let && !starts:
		return f.Type, ErrPlace
	case !cap.Writes(r.origin()):
		return f.Type, ErrView
	case !r.fits(r.kids[1], f.Type):
		return f.Type, ErrResult
	case !types.Storable(r.origin(), r.kids[1]):
		return f.Type, ErrSend
	}
	old, e := types.Extracted(r.origin(), f.Type)
	if e != api.OK {
		return old, ErrView
	}
	if starts {
		return union(old, bodies.None())
	}
	return old, api.OK
}

func (r rule) recovered() (api.Type, api.Errno) {
	if walk.IsZero(r.kids[0]) {
		return api.Type{}, api.OK
	}
	t, e := types.Recovered(r.kids[0], r.x.Types[0].Cap)
	if e != api.OK {
		return t, ErrSend
	}
	return t, api.OK
}

func (r rule) tuple() (api.Type, api.Errno) {
	if slices.ContainsFunc(r.kids, walk.IsZero) {
		return api.Type{}, api.OK
	}
	t := api.Type{Kind: api.TypeTuple, Args: r.kids}
	if types.Check(t) != api.OK {
		return t, api.ErrSize
	}
	return t, api.OK
}

func (r rule) item() (api.Type, api.Errno) {
	n, e := strconv.Atoi(r.x.Text)
	t := r.kids[0]
	switch {
	case t.Kind != api.TypeTuple:
		return t, api.ErrType
	case e != nil || n >= len(t.Args):
		return t, api.ErrRange
	}
	return t.Args[n], api.OK
}

func (r rule) same() (api.Type, api.Errno) { return boolean(), api.OK }

func (r rule) unit() (api.Type, api.Errno) {
	t := r.x.Types[0]
	i, e := subtype.Find(r.program, t.Name)
	_, noNumber := num.Kind(t.Name)
	if e != api.OK || r.program[i].Kind != api.Primitive || noNumber == api.OK || t.Name == "Bool" {
		return t, api.ErrType
	}
	return types.With(t, api.Val)
}
