package sugar

import (
	"hackamore/api"
	"hackamore/located"
	"hackamore/syntax"
)

// isPattern reports whether an expression is a Tuple whose parts are declarations and such Tuples.
func isPattern(n *located.Node) bool {
	if !n.Is(syntax.Tuple) {
		return false
	}
	for _, k := range n.Kids {
		if !k.Is(syntax.Decl) && !isPattern(k) {
			return false
		}
	}
	return true
}

func (r *rewriter) assign(n *located.Node, s *scope) api.Node {
	left, right := n.Kids[0], n.Kids[1]
	switch left.Kind {
	case syntax.Call:
		return r.update(n, s)
	case syntax.Tuple:
		return r.spread(n, s)
	case syntax.Decl:
		typ := r.typ(left.Kids[1], s.frame)
		value := r.expr(right, s)
		s.declare(left.Text, left.Kids[1])
		return assign(decl(left.Text, left.Kids[0].Text, typ), value)
	}
	place := r.expr(left, s)
	return assign(place, r.expr(right, s))
}

// update rewrites an assignment to a call: it calls the method update, whatever Word the call on the left has.
func (r *rewriter) update(n *located.Node, s *scope) api.Node {
	left := n.Kids[0]
	if r.known(left.Kids[0], s) != nil {
		panic(fault{n, ErrAssign})
	}
	e := r.expr(left.Kids[0], s)
	args := r.exprs(left.Kids[2:], s)
	args = append(args, r.expr(n.Kids[1], s))
	return joined(syntax.Call, "", args, dot(e, "update"), word(""))
}

// stray refuses a named argument on the left of an assignment.
func (r *rewriter) stray(n *located.Node, s *scope) api.Node { panic(fault{n, ErrArgs}) }

// spread rewrites an assignment to a tuple of declarations.
func (r *rewriter) spread(n *located.Node, s *scope) api.Node {
	left := n.Kids[0]
	if !isPattern(left) {
		panic(fault{n, ErrAssign})
	}
	k := r.newLocal()
	whole := decl(k, "let", r.tupleType(left, s.frame))
	parts := r.parts(left, k, s.frame)
	value := r.expr(n.Kids[1], s)
	declareAll(left, s)
	all := []api.Node{assign(whole, value)}
	all = append(all, parts...)
	return seq(append(all, name(k))...)
}

// tupleType returns the type of a tuple of declarations.
func (r *rewriter) tupleType(n *located.Node, f *frame) api.Node {
	t := api.Node{Kind: syntax.TupleType}
	for _, k := range n.Kids {
		if k.Is(syntax.Decl) {
			t.Kids = append(t.Kids, r.typ(k.Kids[1], f))
		} else {
			t.Kids = append(t.Kids, r.tupleType(k, f))
		}
	}
	return t
}

// parts declares the parts of a tuple of declarations, with the elements of a local variable as their values.
func (r *rewriter) parts(n *located.Node, from string, f *frame) []api.Node {
	var out []api.Node
	for i, k := range n.Kids {
		element := dot(name(from), numbered("_", i+1))
		if k.Is(syntax.Decl) {
			out = append(out, assign(decl(k.Text, k.Kids[0].Text, r.typ(k.Kids[1], f)), element))
			continue
		}
		inner := r.newLocal()
		out = append(out, assign(decl(inner, "let", r.tupleType(k, f)), element))
		out = append(out, r.parts(k, inner, f)...)
		out = append(out, name(inner))
	}
	return out
}

// declareAll puts the parts of a tuple of declarations into scope.
func declareAll(n *located.Node, s *scope) {
	for _, k := range n.Kids {
		if k.Is(syntax.Decl) {
			s.declare(k.Text, k.Kids[1])
		} else {
			declareAll(k, s)
		}
	}
}

func (r *rewriter) match(n *located.Node, s *scope) api.Node {
	s = s.inside()
	operand := r.expr(n.Kids[0], s)
	otherwise := r.body(n.Kids[1], s)
	var cases []api.Node
	for _, c := range n.Kids[2:] {
		cases = append(cases, r.oneCase(c, s.inside()))
	}
	return joined(syntax.Match, "", cases, operand, otherwise)
}

// oneCase rewrites a case; a tuple is taken apart in its guard, and once more in its body.
func (r *rewriter) oneCase(n *located.Node, s *scope) api.Node {
	pattern := r.pattern(n.Kids[0], s)
	parts := func() []api.Node {
		if !n.Kids[0].Is(syntax.Tuple) {
			return nil
		}
		return r.parts(n.Kids[0], pattern.Text, s.frame)
	}
	guard := nothing()
	if !n.Kids[1].Is(syntax.Nothing) {
		ahead := parts()
		guard = seq(append(ahead, r.expr(n.Kids[1], s))...)
	}
	ahead := parts()
	body := seq(append(ahead, r.expr(n.Kids[2], s))...)
	return made(syntax.Case, "", pattern, guard, body)
}

// pattern rewrites a pattern to a declaration.
func (r *rewriter) pattern(n *located.Node, s *scope) api.Node {
	switch {
	case n.Is(syntax.Decl):
		return r.decl(n, s)
	case n.IsUpper():
		return decl(r.newLocal(), "let", named(n.Text, ""))
	case n.Is(syntax.Qualify) && n.Kids[0].IsUpper():
		k := r.newLocal()
		return decl(k, "let", named(n.Kids[0].Text, "", r.typesOf(n.Kids[1:], s.frame)...))
	case isPattern(n):
		k := r.newLocal()
		whole := decl(k, "let", r.tupleType(n, s.frame))
		declareAll(n, s)
		return whole
	}
	panic(fault{n, ErrPattern})
}
