// Package sugar is layer 5: rewriting of syntax trees to a smaller language. See shared/doc/05-sugar.md.
package sugar

import (
	"hackamore/api"
	"hackamore/located"
	"hackamore/syntax"
)

// Errors of this layer.
const (
	ErrArgs    api.Errno = 70 // arguments that do not fit the parameters of a known method, or names for an unknown one
	ErrAssign  api.Errno = 71 // an assignment to what cannot be assigned
	ErrPattern api.Errno = 72 // a pattern that is none
	ErrChain   api.Errno = 73 // a chain, or a partial application, of what is not known
)

// Module returns the plain tree of a module, with flags that are set.
func Module(n api.Node, flags []string) (api.Node, []int, api.Errno) {
	if e := syntax.Check(n); e != api.OK {
		return api.Node{}, nil, e
	}
	if n.Kind != syntax.Module {
		return api.Node{}, nil, api.ErrArg
	}
	m, path, e := rewrite(located.Tree(n), flags)
	if e != api.OK {
		return api.Node{}, path, e
	}
	if e := syntax.Check(m); e != api.OK {
		return api.Node{}, nil, e
	}
	return m, nil, api.OK
}

// IsPlain reports whether a tree has no sugar.
func IsPlain(n api.Node) bool {
	return syntax.Check(n) == api.OK && n.Kind == syntax.Module && plain(n)
}

// plain reports whether a well-formed part of a module has no sugar.
func plain(n api.Node) bool {
	if n.Kind == syntax.Use { // its condition is one of flags, and no expression that is rewritten
		return true
	}
	if !plainNode(n) {
		return false
	}
	for _, k := range n.Kids {
		if !plain(k) {
			return false
		}
	}
	return true
}

// plainNode looks at a node, and at the kinds of its kids.
func plainNode(n api.Node) bool {
	switch n.Kind {
	case syntax.LambdaType, syntax.Tilde, syntax.Chain, syntax.Named, syntax.Array, syntax.Unary, syntax.As,
		syntax.Repeat, syntax.For, syntax.With, syntax.Ifdef, syntax.Object, syntax.Lambda, syntax.Capture:
		return false
	case syntax.Binary:
		return n.Text == "is" || n.Text == "isnt"
	case syntax.Param:
		return n.Kids[1].Kind == syntax.Nothing
	case syntax.Field:
		return n.Kids[2].Kind == syntax.Nothing
	case syntax.Assign:
		left := n.Kids[0].Kind
		return left == syntax.Name || left == syntax.Decl || left == syntax.Dot
	case syntax.Case:
		return n.Kids[0].Kind == syntax.Decl
	case syntax.Call:
		callee := n.Kids[0]
		return callee.Kind == syntax.Dot || callee.Kind == syntax.Qualify && callee.Kids[0].Kind == syntax.Dot
	}
	return true
}
