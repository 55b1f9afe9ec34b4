package format

import (
	"hackamore/api"
	"hackamore/syntax"
)

func (w *writer) module(n api.Node) string {
	out := ""
	for _, k := range n.Kids {
		if k.Kind == syntax.Use {
			out += w.lines("use " + quoted(k.Text) + w.ahead(" if ", k.Kids[0], asInfix))
		} else {
			out += w.entity(k)
		}
	}
	return out
}

func (w *writer) entity(n api.Node) string {
	head := n.Kids[0].Text + spaced(n.Kids[1]) + " " + n.Text + w.bounds(n.Kids[2]) + w.typeAhead(" is ", n.Kids[3])
	return w.lines(head) + w.members(n.Kids[4:])
}

// members writes members with one more level.
func (w *writer) members(l []api.Node) string {
	return w.more(func() string { return each(l, "", w.member) })
}

func (w *writer) member(n api.Node) string {
	if n.Kind == syntax.Field {
		return w.lines(n.Kids[0].Text + " " + w.typed(n.Text, n.Kids[1], n.Kids[2]))
	}
	head := n.Kids[0].Text + spaced(n.Kids[1]) + " " + n.Text + w.bounds(n.Kids[2]) +
		w.params(n.Kids[3]) + w.typeAhead(": ", n.Kids[4]) + spaced(n.Kids[5])
	if n.Kids[6].Kind == syntax.Nothing {
		return w.lines(head)
	}
	return w.block(w.last(head+" =>"), n.Kids[6])
}

// typed writes a name with its type, and perhaps a value.
func (w *writer) typed(name string, typ, value api.Node) string {
	return name + ": " + w.typ(typ) + w.ahead(" = ", value, asInfix)
}

func (w *writer) bounds(n api.Node) string {
	bound := func(b api.Node) string { return b.Text + w.typeAhead(": ", b.Kids[0]) }
	return between("[", each(n.Kids, ", ", bound), "]")
}

func (w *writer) params(n api.Node) string {
	param := func(p api.Node) string { return w.typed(p.Text, p.Kids[0], p.Kids[1]) }
	return "(" + each(n.Kids, ", ", param) + ")"
}

func (w *writer) named(n api.Node) string {
	return n.Text + between("[", w.types(n.Kids[2:], ", "), "]") + spaced(n.Kids[0]) + n.Kids[1].Text
}

func (w *writer) arrow(n api.Node) string {
	left := w.typ(n.Kids[0])
	if n.Kids[0].Kind == syntax.ArrowType {
		left = "(" + left + ")"
	}
	return left + "->" + w.typ(n.Kids[1])
}

func (w *writer) lambdaType(n api.Node) string {
	return "{(" + w.types(n.Kids[4:], ", ") + ")" + w.typeAhead(": ", n.Kids[3]) + spaced(n.Kids[2]) + "}" +
		spaced(n.Kids[0]) + n.Kids[1].Text
}
