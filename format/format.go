// Package format is layer 4: canonical texts of syntax trees. See shared/doc/04-format.md.
package format

import (
	"hackamore/api"
	"hackamore/parser"
	"hackamore/syntax"
)

// Text returns the canonical text of a tree.
func Text(n api.Node) (string, api.Errno) {
	if e := syntax.Check(n); e != api.OK {
		return "", e
	}
	if n.Kind != syntax.Module && !syntax.IsType(n) && !syntax.IsExpr(n) {
		return "", api.ErrArg
	}
	if !writable(n) {
		return "", api.ErrForm
	}
	w := &writer{rules: rules()}
	text := ""
	switch {
	case n.Kind == syntax.Module:
		text = w.module(n)
	case syntax.IsType(n):
		text = w.typ(n)
	default:
		text = w.stats(n)
		text = text[:len(text)-1]
	}
	if len(text) > api.MaxSource {
		return "", api.ErrLarge
	}
	return text, api.OK
}

// Module returns the canonical text of a module's text.
func Module(text string) (string, int, api.Errno) {
	n, at, e := parser.Parse(text)
	if e != api.OK {
		return "", at, e
	}
	s, e := Text(n)
	return s, 0, e
}

// Parses reports whether a tree has a text.
func Parses(n api.Node) bool {
	_, e := Text(n)
	return e == api.OK || e == api.ErrLarge
}

// writable reports whether a well-formed tree is one that the grammar can give.
func writable(n api.Node) bool {
	methods := false
	for _, k := range n.Kids {
		methods = methods || k.Kind == syntax.Method
		if methods && k.Kind == syntax.Field || n.Kind == syntax.Array && k.Kind == syntax.Seq || !writable(k) {
			return false
		}
	}
	return true
}
