package sugar

import (
	"hackamore/api"
	"hackamore/located"
	"hackamore/syntax"
)

// literal is an object literal: its own fields and methods, and what a lambda captures.
type literal struct {
	cap      string
	actor    bool
	provides *located.Node
	members  []*located.Node
	captures []*located.Node
}

func (r *rewriter) object(n *located.Node, s *scope) api.Node {
	l := literal{cap: n.Kids[0].Text, provides: n.Kids[1], members: n.Kids[2:]}
	for _, m := range members(l.members, syntax.Method) {
		l.actor = l.actor || m.Kids[0].Text == "be"
	}
	return r.literal(l, s)
}

// lambda rewrites a lambda as an object literal with the method apply.
func (r *rewriter) lambda(n *located.Node, s *scope) api.Node {
	cap := n.Kids[0].Text
	apply := located.Added(syntax.Method, "apply", located.Added(syntax.Word, "fun"), located.Added(syntax.Word, applyCap(cap)),
		located.Added(syntax.Bounds, ""), n.Kids[1], n.Kids[2], n.Kids[3], n.Kids[4])
	return r.literal(literal{
		cap: cap, provides: located.Added(syntax.Nothing, ""), members: []*located.Node{apply}, captures: n.Kids[5:],
	}, s)
}

// held is a field of a literal that its constructor gets as an argument.
type held struct {
	name         string
	field, param api.Node // the types
	arg          api.Node
}

// literal makes an entity of a literal, and returns the expression that makes the object.
func (r *rewriter) literal(l literal, s *scope) api.Node {
	x := r.begin(s.frame)
	defer r.end(x)
	f := &frame{name: x.name, known: s.frame.known, bounds: x.bounds, around: s}
	f.own(l.members)
	for _, c := range l.captures {
		f.fields[c.Text] = true
	}
	provides := r.typ(l.provides, f)
	var fields, methods []api.Node
	for _, m := range members(l.members, syntax.Field) {
		fields = append(fields, r.field(m, f))
	}
	f.inValues = true
	values := r.valuesOf(valued(l.members), f)
	f.inValues = false
	for _, m := range members(l.members, syntax.Method) {
		if m.Kids[0].Text == "new" {
			panic(fault{m, api.ErrForm})
		}
		methods = append(methods, r.method(m, f, nil))
	}
	all := r.heldBy(f, l.captures, s)
	kind := "class"
	if l.actor {
		kind = "actor"
	}
	x.node = made(syntax.Entity, x.name, word(kind), word(""), nothing(), provides)
	x.node.Kids = append(x.node.Kids, fieldsOf(all)...)
	x.node.Kids = append(x.node.Kids, fields...)
	x.node.Kids = append(x.node.Kids, constructor(all, values))
	x.node.Kids = append(x.node.Kids, methods...)
	e := x.creation(all)
	if !l.actor && l.cap != "" && l.cap != "ref" {
		return made(syntax.Recover, "", word(l.cap), e)
	}
	return e
}

// heldBy returns what a literal captures, and then the local variables around it that it names.
func (r *rewriter) heldBy(f *frame, captures []*located.Node, s *scope) []held {
	var l []held
	for _, c := range captures {
		h := held{name: c.Text}
		h.field = r.typ(c.Kids[0], s.frame)
		h.param = r.typ(c.Kids[0], s.frame)
		h.arg = r.expr(c.Kids[1], s)
		l = append(l, h)
	}
	for _, c := range f.captured {
		h := held{name: c.name}
		h.field = r.typ(c.typ, f)
		h.param = r.typ(c.typ, f)
		h.arg = nameIn(c.name, s)
		l = append(l, h)
	}
	return l
}

func fieldsOf(l []held) []api.Node {
	var out []api.Node
	for _, h := range l {
		out = append(out, made(syntax.Field, h.name, word("let"), h.field, nothing()))
	}
	return out
}

// constructor returns the one of a literal.
func constructor(l []held, values []api.Node) api.Node {
	params := api.Node{Kind: syntax.Params}
	var parts []api.Node
	for _, h := range l {
		params.Kids = append(params.Kids, made(syntax.Param, h.name, h.param, nothing()))
		parts = append(parts, assign(dot(this(), h.name), name(h.name)))
	}
	parts = append(parts, values...)
	body := seq(append(parts, this())...)
	return made(syntax.Method, "create", word("new"), word(""), made(syntax.Bounds, ""), params, nothing(), word(""), body)
}

// creation returns the call of the constructor of a literal.
func (x *newEntity) creation(l []held) api.Node {
	e := name(x.name)
	if len(x.bounds) > 0 {
		e = joined(syntax.Qualify, "", boundTypes(x.bounds), e)
	}
	var args []api.Node
	for _, h := range l {
		args = append(args, h.arg)
	}
	return call(e, "create", args...)
}

// partial rewrites a partial application as a lambda that captures the arguments.
func (r *rewriter) partial(n *located.Node, s *scope) api.Node {
	tilde := n.Kids[0]
	receiver := tilde.Kids[0]
	method := r.knownIn(receiver, tilde.Text, s.frame)
	if method != nil && method.Kids[0].Text == "new" {
		method = nil
	}
	args := arguments(n, method, true)
	if method == nil {
		panic(fault{tilde, ErrChain})
	}
	var captures []*located.Node
	target := receiver
	if receiver.Is(syntax.This) {
		target = located.Added(syntax.Name, "_this")
		captures = append(captures, located.Added(syntax.Capture, "_this", selfType(s.frame, method), receiver))
	}
	params := method.Kids[3].Kids
	names := map[int]string{}
	for _, a := range args {
		names[a.param] = r.newLocal()
		captures = append(captures, located.Added(syntax.Capture, names[a.param], params[a.param].Kids[0], a.value))
	}
	free := located.Added(syntax.Params, "")
	body := located.Added(syntax.Call, "", located.Added(syntax.Dot, method.Text, target), located.Added(syntax.Word, ""))
	for i, p := range params {
		if names[i] == "" {
			names[i] = p.Text
			free.Kids = append(free.Kids, located.Added(syntax.Param, p.Text, p.Kids[0], located.Added(syntax.Nothing, "")))
		}
		body.Kids = append(body.Kids, located.Added(syntax.Name, names[i]))
	}
	whole := located.Added(syntax.Lambda, "", located.Added(syntax.Word, ""), free, method.Kids[4], method.Kids[5], body)
	whole.Kids = append(whole.Kids, captures...)
	return r.lambda(whole, s)
}

// selfType returns the type of this for a method, with the entity's own type parameters as arguments.
func selfType(f *frame, method *located.Node) *located.Node {
	cap := method.Kids[1].Text
	switch {
	case method.Kids[0].Text == "be":
		cap = "tag"
	case cap == "":
		cap = "box"
	}
	t := located.Added(syntax.NamedType, f.name, located.Added(syntax.Word, cap), located.Added(syntax.Word, ""))
	for _, b := range f.bounds {
		t.Kids = append(t.Kids, located.Added(syntax.NamedType, b.name, located.Added(syntax.Word, ""), located.Added(syntax.Word, "")))
	}
	return t
}
