// Package syntax is layer 2: syntax trees as plain data. See shared/doc/02-syntax.md.
package syntax

import (
	"slices"
	"strings"

	"hackamore/api"
)

const maxText = 100000 // bytes of a text that is parsed

// Kinds of nodes.
const (
	Module     = 1
	Use        = 2
	Entity     = 3
	Word       = 4
	Nothing    = 5
	Bounds     = 6
	Bound      = 7
	Field      = 8
	Method     = 9
	Params     = 10
	Param      = 11
	NamedType  = 12
	UnionType  = 13
	BothType   = 14
	TupleType  = 15
	ArrowType  = 16
	ThisType   = 17
	LambdaType = 18
	IntLit     = 19
	FloatLit   = 20
	StringLit  = 21
	BoolLit    = 22
	Name       = 23
	This       = 24
	Seq        = 25
	Decl       = 26
	Assign     = 27
	Dot        = 28
	Tilde      = 29
	Chain      = 30
	Call       = 31
	Named      = 32
	Qualify    = 33
	Tuple      = 34
	Array      = 35
	Unary      = 36
	Binary     = 37
	As         = 38
	Consume    = 39
	Recover    = 40
	If         = 41
	Ifdef      = 42
	While      = 43
	Repeat     = 44
	For        = 45
	With       = 46
	Match      = 47
	Case       = 48
	Try        = 49
	Error      = 50
	Return     = 51
	Break      = 52
	Continue   = 53
	Object     = 54
	Lambda     = 55
	Capture    = 56
	Last       = 56
)

// Check returns the error of a tree whose root is of any kind.
func Check(n api.Node) api.Errno {
	if !fits(n) {
		return api.ErrSize
	}
	if !wellFormed(n) {
		return api.ErrForm
	}
	return api.OK
}

// Size returns the number of nodes and the depth of a tree.
func Size(n api.Node) (nodes, depth int) {
	for _, k := range n.Kids {
		more, deep := Size(k)
		nodes += more
		depth = max(depth, deep)
	}
	return nodes + 1, depth + 1
}

// Equal reports whether two trees are equal.
func Equal(a, b api.Node) bool {
	return a.Kind == b.Kind && a.Text == b.Text && slices.EqualFunc(a.Kids, b.Kids, Equal)
}

// IsType, IsExpr and IsMember report whether a node is of a group.
func IsType(n api.Node) bool { return n.Kind >= NamedType && n.Kind <= LambdaType }

// IsExpr reports whether a node is an expression.
func IsExpr(n api.Node) bool {
	return n.Kind >= IntLit && n.Kind <= Lambda && n.Kind != Named && n.Kind != Case
}

// IsMember reports whether a node is a field or a method.
func IsMember(n api.Node) bool { return n.Kind == Field || n.Kind == Method }

// At returns the part at a path.
func At(n api.Node, path []int) (api.Node, api.Errno) {
	count := 0
	for part := range along(n, path) {
		n = part
		count++
	}
	if count <= len(path) {
		return api.Node{}, api.ErrNone
	}
	return n, api.OK
}

// Put returns a tree with another part at a path.
func Put(n api.Node, path []int, part api.Node) (api.Node, api.Errno) {
	nodes := slices.Collect(along(n, path))
	if len(nodes) <= len(path) {
		return api.Node{}, api.ErrNone
	}
	for i := len(path) - 1; i >= 0; i-- {
		kids := slices.Clone(nodes[i].Kids)
		kids[path[i]] = part
		part = api.Node{Kind: nodes[i].Kind, Text: nodes[i].Text, Kids: kids}
	}
	return part, api.OK
}

// Text returns the text of a tree as nested lists.
func Text(n api.Node) (string, api.Errno) {
	if e := Check(n); e != api.OK {
		return "", e
	}
	return string(appendText(nil, n, strings.Fields(kindNames))), api.OK
}

// Parse returns the tree with a text.
func Parse(s string) (api.Node, api.Errno) {
	if len(s) > maxText {
		return api.Node{}, api.ErrLarge
	}
	n, ok := parse(s)
	if !ok || !wellFormed(n) {
		return api.Node{}, api.ErrForm
	}
	if !fits(n) {
		return api.Node{}, api.ErrSize
	}
	return n, api.OK
}
