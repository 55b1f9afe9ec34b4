// Package located has the nodes of syntax trees with the places at which they stand, for the paths of errors.
package located

import (
	"slices"

	"hackamore/api"
	"hackamore/syntax"
)

// Node is a node of a tree; it knows the node that it is a kid of.
type Node struct {
	Kind int
	Text string
	Kids []*Node
	up   *Node
	at   int
}

// Tree returns the nodes of a tree.
func Tree(n api.Node) *Node { return placed(n, nil, 0) }

func placed(n api.Node, up *Node, at int) *Node {
	s := &Node{Kind: n.Kind, Text: n.Text, up: up, at: at}
	for i, k := range n.Kids {
		s.Kids = append(s.Kids, placed(k, s, i))
	}
	return s
}

// Added returns a node that stands nowhere.
func Added(kind int, text string, kids ...*Node) *Node {
	return &Node{Kind: kind, Text: text, Kids: kids}
}

// Plain returns the tree of a node.
func (n *Node) Plain() api.Node {
	p := api.Node{Kind: n.Kind, Text: n.Text}
	for _, k := range n.Kids {
		p.Kids = append(p.Kids, k.Plain())
	}
	return p
}

// Path returns the indices of kids that lead to a node.
func (n *Node) Path() []int {
	var l []int
	for ; n.up != nil; n = n.up {
		l = append(l, n.at)
	}
	slices.Reverse(l)
	return l
}

// Is reports whether a node is of a kind.
func (n *Node) Is(kind int) bool { return n.Kind == kind }

// IsUpper reports whether a node is a name of an entity or of a type parameter.
func (n *Node) IsUpper() bool { return n.Kind == syntax.Name && IsUpper(n.Text) }

// IsLower reports whether a node is any other name.
func (n *Node) IsLower() bool { return n.Kind == syntax.Name && !IsUpper(n.Text) }

// IsUpper reports whether the first letter of a name is great.
func IsUpper(name string) bool {
	for i := range len(name) {
		if name[i] != '_' {
			return name[i] >= 'A' && name[i] <= 'Z'
		}
	}
	return false
}

// Holds returns whether a condition of flags holds; if it is none, it returns the first part that is none.
func Holds(n *Node, flags map[string]bool) (bool, *Node) {
	switch {
	case n.Kind == syntax.Name:
		return flags[n.Text], nil
	case n.Kind == syntax.BoolLit:
		return n.Text == "true", nil
	case n.Kind == syntax.Unary && n.Text == "not":
		a, wrong := Holds(n.Kids[0], flags)
		return !a && wrong == nil, wrong
	case n.Kind != syntax.Binary || n.Text != "and" && n.Text != "or":
		return false, n
	}
	a, wrong := Holds(n.Kids[0], flags)
	if wrong != nil {
		return false, wrong
	}
	b, wrong := Holds(n.Kids[1], flags)
	switch {
	case wrong != nil:
		return false, wrong
	case n.Text == "and":
		return a && b, nil
	}
	return a || b, nil
}
