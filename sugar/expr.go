package sugar

import (
	"hackamore/api"
	"hackamore/located"
	"hackamore/syntax"
)

// all rewrites all kids.
func (r *rewriter) all(n *located.Node, s *scope) api.Node {
	return made(n.Kind, n.Text, r.exprs(n.Kids, s)...)
}

func (r *rewriter) exprs(l []*located.Node, s *scope) []api.Node {
	var out []api.Node
	for _, k := range l {
		out = append(out, r.expr(k, s))
	}
	return out
}

func (r *rewriter) seq(n *located.Node, s *scope) api.Node { return seq(r.exprs(n.Kids, s)...) }

// name rewrites a name: one of a field becomes that field of this.
func (r *rewriter) name(n *located.Node, s *scope) api.Node { return nameIn(n.Text, s) }

func nameIn(text string, s *scope) api.Node {
	if !located.IsUpper(text) {
		if what, _ := s.find(text); what == isField || what == isCaptured {
			return dot(this(), text)
		}
	}
	return name(text)
}

func (r *rewriter) decl(n *located.Node, s *scope) api.Node {
	typ := r.typ(n.Kids[1], s.frame)
	s.declare(n.Text, n.Kids[1])
	return decl(n.Text, n.Kids[0].Text, typ)
}

// qualify rewrites type arguments; those of a name that is nothing else are for a method of this.
func (r *rewriter) qualify(n *located.Node, s *scope) api.Node {
	e := api.Node{}
	if callee := n.Kids[0]; callee.IsLower() && isUnknown(callee.Text, s) {
		e = dot(this(), callee.Text)
	} else {
		e = r.expr(callee, s)
	}
	return joined(syntax.Qualify, "", r.typesOf(n.Kids[1:], s.frame), e)
}

func isUnknown(text string, s *scope) bool {
	what, _ := s.find(text)
	return what == isNothing
}

func (r *rewriter) unary(n *located.Node, s *scope) api.Node {
	e := r.expr(n.Kids[0], s)
	if n.Text == "not" {
		return call(e, "op_not")
	}
	return call(e, "neg")
}

// operators returns the methods of operators.
func operators() map[string]string {
	return map[string]string{
		"+": "add", "-": "sub", "*": "mul", "/": "div", "%": "rem", "<<": "shl", ">>": "shr",
		"==": "eq", "!=": "ne", "<": "lt", "<=": "le", ">": "gt", ">=": "ge", "xor": "op_xor",
		"+?": "add_partial", "-?": "sub_partial", "*?": "mul_partial", "/?": "div_partial", "%?": "rem_partial",
	}
}

func (r *rewriter) binary(n *located.Node, s *scope) api.Node {
	a := r.expr(n.Kids[0], s)
	b := r.expr(n.Kids[1], s)
	switch n.Text {
	case "is", "isnt":
		return made(syntax.Binary, n.Text, a, b)
	case "and":
		return made(syntax.If, "", a, b, boolean("false"))
	case "or":
		return made(syntax.If, "", a, boolean("true"), b)
	}
	c := call(a, operators()[n.Text], b)
	if n.Text[len(n.Text)-1] == '?' {
		c.Kids[1] = word("?")
	}
	return c
}

func (r *rewriter) as(n *located.Node, s *scope) api.Node {
	k := r.newLocal()
	e := r.expr(n.Kids[0], s)
	typ := r.typ(n.Kids[1], s.frame)
	found := made(syntax.Case, "", decl(k, "let", typ), nothing(), made(syntax.Consume, "", name(k)))
	return made(syntax.Match, "", e, made(syntax.Error, ""), found)
}

func (r *rewriter) array(n *located.Node, s *scope) api.Node {
	k := r.newLocal()
	typ := named("Array", "ref", r.typ(n.Kids[0], s.frame))
	empty := call(made(syntax.Qualify, "", name("Array"), r.typ(n.Kids[0], s.frame)), "create")
	parts := []api.Node{assign(decl(k, "let", typ), empty)}
	for _, e := range n.Kids[1:] {
		parts = append(parts, call(name(k), "push", r.expr(e, s)))
	}
	return seq(append(parts, made(syntax.Consume, "", name(k)))...)
}

func (r *rewriter) recovered(n *located.Node, s *scope) api.Node {
	return made(syntax.Recover, "", word(n.Kids[0].Text), r.body(n.Kids[1], s))
}

// branches rewrites an if or a while: what its condition declares ends with it.
func (r *rewriter) branches(n *located.Node, s *scope) api.Node {
	s = s.inside()
	condition := r.expr(n.Kids[0], s)
	first := r.body(n.Kids[1], s)
	return made(n.Kind, "", condition, first, r.body(n.Kids[2], s))
}

// ifdef gives the part that is taken, which is no body.
func (r *rewriter) ifdef(n *located.Node, s *scope) api.Node {
	holds, wrong := located.Holds(n.Kids[0], r.flags)
	switch {
	case wrong != nil:
		panic(fault{wrong, api.ErrForm})
	case holds:
		return r.expr(n.Kids[1], s)
	case n.Kids[2].Is(syntax.Nothing):
		return name("None")
	}
	return r.expr(n.Kids[2], s)
}

func (r *rewriter) repeat(n *located.Node, s *scope) api.Node {
	k := r.newLocal()
	s = s.inside()
	body := r.body(n.Kids[0], s)
	until := call(r.expr(n.Kids[1], s), "op_not")
	first := seq(assign(name(k), boolean("false")), boolean("true"))
	condition := made(syntax.If, "", name(k), first, until)
	return seq(assign(decl(k, "var", named("Bool", "")), boolean("true")),
		made(syntax.While, "", condition, body, nothing()))
}

func (r *rewriter) loop(n *located.Node, s *scope) api.Node {
	k := r.newLocal()
	s = s.inside()
	iterator := decl(k, "let", named("Iterator", "ref", r.typ(n.Kids[0], s.frame)))
	begin := assign(iterator, r.expr(n.Kids[1], s))
	next := call(name(k), "next")
	next.Kids[1] = word("?")
	step := made(syntax.Try, "", next, made(syntax.Break, ""), nothing())
	item := assign(decl(n.Text, "let", r.typ(n.Kids[0], s.frame)), step)
	inner := s.inside()
	inner.declare(n.Text, n.Kids[0])
	body := seq(item, r.expr(n.Kids[2], inner))
	otherwise := r.body(n.Kids[3], s)
	return seq(begin, made(syntax.While, "", call(name(k), "has_next"), body, otherwise))
}

// with declares its name behind itself, too.
func (r *rewriter) with(n *located.Node, s *scope) api.Node {
	item := decl(n.Text, "let", r.typ(n.Kids[0], s.frame))
	begin := assign(item, r.expr(n.Kids[1], s))
	s.declare(n.Text, n.Kids[0])
	body := r.body(n.Kids[2], s)
	return seq(begin, made(syntax.Try, "", body, made(syntax.Error, ""), call(name(n.Text), "dispose")))
}

func (r *rewriter) attempt(n *located.Node, s *scope) api.Node {
	body := r.body(n.Kids[0], s)
	otherwise := r.body(n.Kids[1], s)
	return made(syntax.Try, "", body, otherwise, r.body(n.Kids[2], s))
}
