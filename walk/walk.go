// Package walk goes through types and expressions: it hands on their nodes, and makes copies, for the layers that look into them.
package walk

import (
	"iter"
	"slices"

	"hackamore/api"
)

// Nodes hands on a type and then, in order, the nodes of its Args.
func Nodes(t api.Type) iter.Seq[api.Type] {
	return func(yield func(api.Type) bool) { nodes(t, yield) }
}

func nodes(t api.Type, yield func(api.Type) bool) bool {
	if !yield(t) {
		return false
	}
	for _, a := range t.Args {
		if !nodes(a, yield) {
			return false
		}
	}
	return true
}

// Parts hands on the parts of a type: the names, type parameters and receivers that are reached through unions,
// intersections, tuples and the right sides of arrows alone.
func Parts(t api.Type) iter.Seq[api.Type] {
	return func(yield func(api.Type) bool) { parts(t, yield) }
}

func parts(t api.Type, yield func(api.Type) bool) bool {
	l := t.Args
	switch t.Kind {
	case api.TypeName, api.TypeParam, api.TypeSelf:
		return yield(t)
	case api.TypeArrow:
		l = l[min(1, len(l)):]
	}
	return !slices.ContainsFunc(l, func(a api.Type) bool { return !parts(a, yield) })
}

// HasArrow reports whether there is an arrow on the way to a part of a type.
func HasArrow(t api.Type) bool {
	switch t.Kind {
	case api.TypeArrow:
		return true
	case api.TypeUnion, api.TypeBoth, api.TypeTuple:
		return slices.ContainsFunc(t.Args, HasArrow)
	}
	return false
}

// HasParams reports whether there is a type parameter anywhere in a type.
func HasParams(t api.Type) bool {
	for n := range Nodes(t) {
		if n.Kind == api.TypeParam {
			return true
		}
	}
	return false
}

// Counts returns what counts of a capability with a mark.
func Counts(c, mark int) int {
	switch {
	case mark == api.Aliased && c == api.Iso:
		return api.Tag
	case mark == api.Aliased && c == api.Trn:
		return api.Box
	}
	return c
}

// IsZero reports whether a type is the zero Type.
func IsZero(t api.Type) bool {
	return t.Kind == 0 && t.Name == "" && t.Cap == 0 && t.Mark == 0 && len(t.Args) == 0
}

// IsNone reports whether an expression is the zero Expr: a body, or a kid, that is none.
func IsNone(x api.Expr) bool {
	return x.Op == 0 && x.Text == "" && len(x.Types) == 0 && len(x.Kids) == 0
}

// Exprs hands on an expression and then, in order, the nodes of its Kids.
func Exprs(x api.Expr) iter.Seq[api.Expr] {
	return func(yield func(api.Expr) bool) { exprs(x, yield) }
}

func exprs(x api.Expr, yield func(api.Expr) bool) bool {
	if !yield(x) {
		return false
	}
	for _, k := range x.Kids {
		if !exprs(k, yield) {
			return false
		}
	}
	return true
}

// Body hands on an expression and then, in order, the nodes of its Kids; one with the Op 0 is none, and has no nodes below it.
func Body(x api.Expr) iter.Seq[api.Expr] {
	return func(yield func(api.Expr) bool) { body(x, yield) }
}

func body(x api.Expr, yield func(api.Expr) bool) bool {
	if !yield(x) {
		return false
	}
	return x.Op == 0 || !slices.ContainsFunc(x.Kids, func(k api.Expr) bool { return !body(k, yield) })
}

// Small reports whether an expression has at most so many nodes, and levels; it looks at no more of them.
func Small(x api.Expr, nodes, depth int) bool {
	count := 0
	var fits func(x api.Expr, level int) bool
	fits = func(x api.Expr, level int) bool {
		count++
		if count > nodes || level > depth {
			return false
		}
		return !slices.ContainsFunc(x.Kids, func(k api.Expr) bool { return !fits(k, level+1) })
	}
	return fits(x, 1)
}

// Type returns a type with memory of its own.
func Type(t api.Type) api.Type {
	t.Args = Types(t.Args)
	return t
}

// Types returns a list of types with memory of its own.
func Types(l []api.Type) []api.Type {
	if len(l) == 0 {
		return nil
	}
	c := make([]api.Type, len(l))
	for i, t := range l {
		c[i] = Type(t)
	}
	return c
}

// Expr returns an expression with memory of its own.
func Expr(x api.Expr) api.Expr {
	x.Types = Types(x.Types)
	kids := x.Kids
	x.Kids = nil
	for _, k := range kids {
		x.Kids = append(x.Kids, Expr(k))
	}
	return x
}

// Map returns an expression in which each type is what a function returns for it, in the order of the walk: the Types of
// a node, and then its Kids.
func Map(x api.Expr, do func(api.Type) api.Type) api.Expr {
	types, kids := x.Types, x.Kids
	x.Types, x.Kids = nil, nil
	for _, t := range types {
		x.Types = append(x.Types, do(t))
	}
	for _, k := range kids {
		x.Kids = append(x.Kids, Map(k, do))
	}
	return x
}
