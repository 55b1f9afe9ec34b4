package sugar

import (
	"strconv"

	"hackamore/api"
	"hackamore/located"
	"hackamore/syntax"
)

// numbered returns a prefix with a number behind it.
func numbered(prefix string, n int) string { return prefix + strconv.Itoa(n) }

// entity rewrites an entity of the module.
func (r *rewriter) entity(n *located.Node) api.Node {
	f := &frame{name: n.Text, known: true}
	l := n.Kids[4:]
	f.own(l)
	bounds := r.boundsIn(n.Kids[2], &f.bounds, f)
	provides := r.typ(n.Kids[3], f)
	values := valued(l)
	var fields, methods []api.Node
	for _, m := range l {
		if m.Is(syntax.Field) {
			fields = append(fields, r.field(m, f))
		} else {
			methods = append(methods, r.method(m, f, values))
		}
	}
	fields = append(fields, methods...)
	return joined(syntax.Entity, n.Text, fields, word(n.Kids[0].Text), word(n.Kids[1].Text), bounds, provides)
}

// valued returns the fields with values.
func valued(l []*located.Node) []*located.Node {
	var out []*located.Node
	for _, m := range l {
		if m.Is(syntax.Field) && !m.Kids[2].Is(syntax.Nothing) {
			out = append(out, m)
		}
	}
	return out
}

// boundsIn rewrites the type parameters of an entity or a method; all of them are in the list ahead of their types.
func (r *rewriter) boundsIn(n *located.Node, list *[]*bound, f *frame) api.Node {
	*list = nil
	for _, b := range n.Kids {
		*list = append(*list, &bound{name: b.Text})
	}
	for i, b := range n.Kids {
		(*list)[i].node = made(syntax.Bound, b.Text, r.typ(b.Kids[0], f))
	}
	return boundsOf(*list)
}

// field rewrites a field without its value.
func (r *rewriter) field(m *located.Node, f *frame) api.Node {
	return made(syntax.Field, m.Text, word(m.Kids[0].Text), r.typ(m.Kids[1], f), nothing())
}

// method rewrites a method of an entity whose fields have these values.
func (r *rewriter) method(m *located.Node, f *frame, values []*located.Node) api.Node {
	bounds := r.boundsIn(m.Kids[2], &f.inner, f)
	s := f.scope()
	params := api.Node{Kind: syntax.Params}
	for _, p := range m.Kids[3].Kids {
		params.Kids = append(params.Kids, made(syntax.Param, p.Text, r.typ(p.Kids[0], f), nothing()))
		s.declare(p.Text, p.Kids[0])
	}
	result := r.typ(m.Kids[4], f)
	var parts []api.Node
	if m.Kids[0].Text == "new" {
		parts = r.valuesOf(values, f)
	}
	body := r.body(m.Kids[6], s)
	if len(parts) > 0 || body.Kind != syntax.Nothing {
		if body.Kind == syntax.Nothing {
			body = this()
		}
		body = seq(append(parts, body)...)
	}
	f.inner = nil
	return made(syntax.Method, m.Text, word(m.Kids[0].Text), word(m.Kids[1].Text), bounds, params, result,
		word(m.Kids[5].Text), body)
}

// valuesOf assigns their values to fields.
func (r *rewriter) valuesOf(fields []*located.Node, f *frame) []api.Node {
	var parts []api.Node
	for _, m := range fields {
		parts = append(parts, assign(dot(this(), m.Text), r.again(m.Kids[2], f.scope())))
	}
	return parts
}
