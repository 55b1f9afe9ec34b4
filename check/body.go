package check

import (
	"hackamore/api"
	"hackamore/bodies"
	"hackamore/flow"
)

// left is how a fault leaves the walk of a body.
type left struct {
	path []int
	code api.Errno
}

// Method returns the types of the expressions of one method.
func Method(p []api.Entity, entity, method int) (b Body, f Fault, e api.Errno) {
	if !bodies.IsMethod(p, entity, method) {
		return Body{}, Fault{}, api.ErrRange
	}
	defer func() {
		if x := recover(); x != nil {
			b, f, e = Body{}, Fault{Entity: entity, Method: method}, api.ErrState
			if l, ok := x.(left); ok {
				f.Path, e = l.path, l.code
			}
		}
	}()
	c, e := Begin(p, entity, method)
	fail(e, nil)
	b = Body{Entity: entity, Method: method}
	if m := p[entity].Methods[method]; hasBody(m) {
		b.Types = bodyTypes(p, c, m)
	}
	return b, Fault{}, api.OK
}

// fail leaves with an error, if it is one.
func fail(e api.Errno, path []int) {
	if e != api.OK {
		panic(left{path, e})
	}
}

// bodyTypes returns the types of the expressions in the body of a method, behind all that is asked of it.
func bodyTypes(p []api.Entity, c Context, m api.Method) []api.Type {
	path, e := Shape(m.Body)
	fail(e, path)
	w := &course{program: p, consumed: bodies.Consumed(m.Body), locals: c.Locals}
	t := w.find(c, m.Body, nil)
	if !bodies.Returns(p, p[c.Entity], m, t) {
		fail(ErrResult, nil)
	}
	report, e := flow.Check(p[c.Entity], c.Method, w.partial)
	fail(e, nil)
	for _, f := range report.Faults {
		fail(f.Code, f.Path)
	}
	return w.types
}

// course is the way through a body: the types that were found, the paths of calls that may end with an error, the local
// variables that were declared so far, and the number of recover blocks.
type course struct {
	program  []api.Entity
	consumed map[string]bool
	types    []api.Type
	partial  [][]int
	locals   []Local
	regions  int
}

// find finds the type of an expression in a context, and those of its Kids ahead of it.
func (w *course) find(c Context, x api.Expr, path []int) api.Type {
	at := len(w.types)
	w.types = append(w.types, api.Type{})
	if x.Op == 0 {
		return api.Type{}
	}
	c.Locals = w.locals[:len(w.locals):len(w.locals)]
	inner := c
	if x.Op == api.OpRecover {
		w.regions++
		inner.Regions = append(c.Regions[:len(c.Regions):len(c.Regions)], w.regions)
	}
	kids := w.kids(inner, x, path)
	t, e := Rule(w.program, c, x, kids)
	fail(e, path)
	if bodies.IsPartial(w.program, x, kids) {
		w.partial = append(w.partial, path)
	}
	if x.Op == api.OpVar || x.Op == api.OpLet {
		w.declare(c, x, x.Types[0])
	}
	w.types[at] = t
	return t
}

// kids finds the types of the Kids of an expression; a case declares its variable ahead of them, and in its guard this
// is looked at only.
func (w *course) kids(c Context, x api.Expr, path []int) []api.Type {
	bound := len(w.locals)
	binds := x.Op == api.OpCase && x.Text != ""
	if binds {
		t, e := bodies.LookedAt(x.Types[0])
		fail(e, path)
		w.declare(c, x, t)
	}
	var l []api.Type
	for i, k := range x.Kids {
		if binds && i == 1 {
			w.locals[bound].Type = x.Types[0]
		}
		l = append(l, w.find(c, k, longer(path, i)))
	}
	return l
}

// declare declares the local variable of an expression.
func (w *course) declare(c Context, x api.Expr, t api.Type) {
	isCase := x.Op == api.OpCase
	l := Local{Name: x.Text, Param: isCase, Always: (isCase || len(x.Kids) > 0) && !w.consumed[x.Text], Type: t, Region: c.region()}
	w.locals = append(w.locals, l)
}

// region returns the number of the innermost recover block, 0 without any.
func (c Context) region() int {
	if len(c.Regions) == 0 {
		return 0
	}
	return c.Regions[len(c.Regions)-1]
}
