package sugar

import (
	"hackamore/api"
	"hackamore/located"
	"hackamore/syntax"
)

// member returns the first member of a kind and a name.
func member(members []*located.Node, kind int, name string) *located.Node {
	for _, m := range members {
		if m.Kind == kind && m.Text == name {
			return m
		}
	}
	return nil
}

// members returns the members of a kind.
func members(l []*located.Node, kind int) []*located.Node {
	var out []*located.Node
	for _, m := range l {
		if m.Kind == kind {
			out = append(out, m)
		}
	}
	return out
}

// The nodes of the plain tree.

func made(kind int, text string, kids ...api.Node) api.Node {
	return api.Node{Kind: kind, Text: text, Kids: kids}
}

// joined is made with more kids behind the first ones.
func joined(kind int, text string, more []api.Node, kids ...api.Node) api.Node {
	return api.Node{Kind: kind, Text: text, Kids: append(kids, more...)}
}

func word(text string) api.Node { return api.Node{Kind: syntax.Word, Text: text} }

func nothing() api.Node { return api.Node{Kind: syntax.Nothing} }

func name(text string) api.Node { return api.Node{Kind: syntax.Name, Text: text} }

func this() api.Node { return api.Node{Kind: syntax.This} }

func boolean(text string) api.Node { return api.Node{Kind: syntax.BoolLit, Text: text} }

func dot(e api.Node, text string) api.Node { return made(syntax.Dot, text, e) }

// call returns a call of a method.
func call(e api.Node, method string, args ...api.Node) api.Node {
	return joined(syntax.Call, "", args, dot(e, method), word(""))
}

func assign(left, right api.Node) api.Node { return made(syntax.Assign, "", left, right) }

func decl(text, kind string, typ api.Node) api.Node { return made(syntax.Decl, text, word(kind), typ) }

func named(text, cap string, args ...api.Node) api.Node {
	return joined(syntax.NamedType, text, args, word(cap), word(""))
}

// seq returns the Seq of parts in which Seqs among them are dissolved, or the only part.
func seq(parts ...api.Node) api.Node {
	var l []api.Node
	for _, p := range parts {
		if p.Kind == syntax.Seq {
			l = append(l, p.Kids...)
		} else {
			l = append(l, p)
		}
	}
	if len(l) == 1 {
		return l[0]
	}
	return api.Node{Kind: syntax.Seq, Kids: l}
}

// clone returns a tree that shares no memory with another one.
func clone(n api.Node) api.Node {
	c := api.Node{Kind: n.Kind, Text: n.Text}
	for _, k := range n.Kids {
		c.Kids = append(c.Kids, clone(k))
	}
	return c
}
