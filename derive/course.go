package derive

import (
	"slices"

	"hackamore/api"
	"hackamore/bodies"
	"hackamore/check"
)

// places returns the paths of the nodes of an expression, behind others, in the order of the walk.
func places(l [][]int, x api.Expr, path []int) [][]int {
	l = append(l, path)
	if x.Op == 0 {
		return l
	}
	for i, k := range x.Kids {
		l = places(l, k, below(path, i))
	}
	return l
}

// below returns the path of a kid.
func below(path []int, i int) []int { return append(slices.Clip(path), i) }

// node is an expression where it stands, with the types that are claimed for it and its Kids.
type node struct {
	c       check.Context
	x       api.Expr
	path    []int
	kids    []api.Type
	claimed api.Type
}

// course is the way through a body: the local variables that were declared so far, and the number of recover blocks.
type course struct {
	consumed map[string]bool
	locals   []check.Local
	regions  int
	next     func() api.Type   // hands out the claimed types in the order of the walk
	visit    func(n node) bool // what is done with a node, behind its Kids; false ends the walk
}

// walk visits an expression behind all below it, and returns the type that is claimed for it; false, if a visit ends it.
func (w *course) walk(c check.Context, x api.Expr, path []int) (api.Type, bool) {
	claimed := w.next()
	c.Locals = w.locals[:len(w.locals):len(w.locals)]
	kids, ok := w.kids(c, x, path)
	if !ok || !w.visit(node{c, x, path, kids, claimed}) {
		return api.Type{}, false
	}
	if x.Op == api.OpVar || x.Op == api.OpLet {
		w.declare(c, x)
	}
	return claimed, true
}

// kids visits the Kids of an expression, and returns the types that are claimed for them.
func (w *course) kids(c check.Context, x api.Expr, path []int) ([]api.Type, bool) {
	if x.Op == 0 {
		return nil, true
	}
	if x.Op == api.OpRecover {
		w.regions++
		c.Regions = append(slices.Clip(c.Regions), w.regions)
	}
	bound := len(w.locals)
	binds := x.Op == api.OpCase && x.Text != ""
	if binds {
		w.declare(c, x)
	}
	var l []api.Type
	for i, k := range x.Kids {
		if binds {
			w.bind(bound, x.Types[0], i == 0)
		}
		t, ok := w.walk(c, k, below(path, i))
		if !ok {
			return nil, false
		}
		l = append(l, t)
	}
	return l, true
}

// declare declares the local variable of an expression.
func (w *course) declare(c check.Context, x api.Expr) {
	l := check.Local{Name: x.Text, Param: x.Op == api.OpCase, Type: x.Types[0]}
	l.Always = (l.Param || len(x.Kids) > 0) && !w.consumed[x.Text]
	if len(c.Regions) > 0 {
		l.Region = c.Regions[len(c.Regions)-1]
	}
	w.locals = append(w.locals, l)
}

// bind gives the variable of a case its type, which in the guard is that of what is looked at only.
func (w *course) bind(i int, t api.Type, guard bool) {
	if guard {
		t, _ = bodies.LookedAt(t) // which has no error for a type that has none
	}
	w.locals[i].Type = t
}
