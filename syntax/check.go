package syntax

import (
	"iter"
	"strings"

	"hackamore/api"
)

// fits reports whether a tree is not too large; it looks at no more nodes than may be there.
func fits(n api.Node) bool {
	count := 0
	var within func(n api.Node, depth int) bool
	within = func(n api.Node, depth int) bool {
		count++
		if depth > api.MaxTree || count > api.MaxNodes {
			return false
		}
		for _, k := range n.Kids {
			if !within(k, depth+1) {
				return false
			}
		}
		return true
	}
	return within(n, 1)
}

// checker has the tables by which trees are checked.
type checker struct {
	shapes [Last + 1]shape
	texts  map[string]func(s string) bool
	kids   map[string]func(n api.Node) bool
}

// wellFormed reports whether a tree is as the table of kinds says.
func wellFormed(n api.Node) bool {
	c := &checker{shapes(), textGroups(), kidGroups()}
	return c.tree(n)
}

func (c *checker) tree(n api.Node) bool {
	if !c.node(n) {
		return false
	}
	for _, k := range n.Kids {
		if !c.tree(k) {
			return false
		}
	}
	return true
}

// node checks a node, and the kinds of its kids.
func (c *checker) node(n api.Node) bool {
	if n.Kind < 1 || n.Kind > Last {
		return false
	}
	s := c.shapes[n.Kind]
	if !c.text(s.text, n.Text) {
		return false
	}
	rest := n.Kids
	for group := range groups(s.kids) {
		if len(rest) == 0 || !c.kid(group, rest[0]) {
			return false
		}
		rest = rest[1:]
	}
	if len(rest) < s.least || n.Kind == Entity && n.Kids[0].Text == "type" && (len(rest) > 0 || n.Kids[3].Kind == Nothing) {
		return false
	}
	for group := range groups(s.more) {
		for len(rest) > 0 && c.kid(group, rest[0]) {
			rest = rest[1:]
		}
	}
	return len(rest) == 0
}

func (c *checker) text(group, s string) bool {
	if isList(group) {
		return hasWord(group, s)
	}
	return c.texts[group](s)
}

func (c *checker) kid(group string, n api.Node) bool {
	if isList(group) {
		return n.Kind == Word && hasWord(group, n.Text)
	}
	return c.kids[group](n)
}

// groups hands on the groups of a list with commas.
func groups(list string) iter.Seq[string] {
	return func(yield func(string) bool) {
		for list != "" {
			group, rest, _ := strings.Cut(list, ",")
			list = rest
			if !yield(group) {
				return
			}
		}
	}
}

// along hands on the nodes that a path leads through, from the root on, as far as they are there.
func along(n api.Node, path []int) iter.Seq[api.Node] {
	return func(yield func(api.Node) bool) {
		at := n
		if !yield(at) {
			return
		}
		for _, i := range path {
			if i < 0 || i >= len(at.Kids) {
				return
			}
			at = at.Kids[i]
			if !yield(at) {
				return
			}
		}
	}
}
