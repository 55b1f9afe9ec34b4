package parser

import (
	"hackamore/api"
	"hackamore/syntax"
	"hackamore/token"
)

// seq reads stats. Behind the first one, each stands behind `;`, or begins a line.
func (p *parser) seq() api.Node {
	stats := dissolved(nil, p.stat())
	for !p.ended() && !p.stops[p.fixed()] {
		if !p.take(";") && p.onLine() {
			p.fail(ErrToken)
		}
		stats = dissolved(stats, p.stat())
	}
	if len(stats) == 1 {
		return stats[0]
	}
	return api.Node{Kind: syntax.Seq, Kids: stats}
}

// dissolved appends a stat, or the stats of a Seq.
func dissolved(l []api.Node, n api.Node) []api.Node {
	if n.Kind == syntax.Seq {
		return append(l, n.Kids...)
	}
	return append(l, n)
}

func (p *parser) stat() api.Node {
	switch {
	case p.take("return"):
		if p.onLine() && p.startsTerm() {
			return node(syntax.Return, "", p.infix())
		}
		return node(syntax.Return, "", nothing())
	case p.take("break"):
		return node(syntax.Break, "")
	case p.take("continue"):
		return node(syntax.Continue, "")
	case p.take("error"):
		return node(syntax.Error, "")
	}
	return p.assign()
}

func (p *parser) startsTerm() bool {
	switch p.next().Kind {
	case token.Ident, token.Int, token.Float, token.String:
		return true
	}
	return p.terms[p.fixed()]
}

func (p *parser) assign() api.Node {
	left := p.infix()
	if !p.is("=") {
		return left
	}
	if !assignable(left) {
		p.fail(api.ErrForm)
	}
	p.want("=")
	return node(syntax.Assign, "", left, p.assign())
}

// assignable reports whether an expression may stand on the left of an assignment.
func assignable(n api.Node) bool {
	switch n.Kind {
	case syntax.Name, syntax.Decl, syntax.Dot, syntax.Call:
		return true
	case syntax.Tuple:
		for _, k := range n.Kids {
			if !assignable(k) {
				return false
			}
		}
		return true
	}
	return false
}

func (p *parser) infix() api.Node {
	n := p.term()
	if p.take("as") {
		n = node(syntax.As, "", n, p.typ())
		if p.operator() != "" || p.is("as") {
			p.fail(ErrMix)
		}
		return n
	}
	first := p.operator()
	if first == "" {
		return n
	}
	for op := first; op != ""; op = p.operator() {
		if op != first {
			p.fail(ErrMix)
		}
		p.at++
		n = node(syntax.Binary, op, n, p.term())
	}
	if p.is("as") {
		p.fail(ErrMix)
	}
	return n
}

// operator returns the operator that is the next token, or no text; a `-` must be on its line.
func (p *parser) operator() string {
	op := p.fixed()
	if !p.operators[op] || op == "-" && !p.onLine() {
		return ""
	}
	return op
}

func (p *parser) term() api.Node {
	switch {
	case p.take("not"):
		return node(syntax.Unary, "not", p.term())
	case p.take("-"):
		return node(syntax.Unary, "-", p.term())
	case p.take("consume"):
		return node(syntax.Consume, "", p.term())
	}
	return p.postfix()
}

func (p *parser) postfix() api.Node {
	n := p.atom()
	for {
		switch {
		case p.take("."):
			n = node(syntax.Dot, p.name(), n)
		case p.take("~"):
			n = node(syntax.Tilde, p.name(), n)
		case p.take(".>"):
			n = node(syntax.Chain, p.name(), n)
		case p.onLine() && p.take("["):
			types := list(p, p.typ)
			p.want("]")
			n = joined(syntax.Qualify, "", types, n)
		case p.onLine() && p.take("("):
			n = p.call(n)
		default:
			return n
		}
	}
}

// call reads a call behind its opening bracket.
func (p *parser) call(callee api.Node) api.Node {
	var args []api.Node
	if !p.is(")") && !p.is("where") {
		args = list(p, p.assign)
	}
	if p.take("where") {
		args = append(args, list(p, p.namedArg)...)
	}
	p.want(")")
	mark := word("")
	if p.onLine() {
		mark = p.mark()
	}
	return joined(syntax.Call, "", args, callee, mark)
}

func (p *parser) namedArg() api.Node {
	name := p.name()
	p.want("=")
	return node(syntax.Named, name, p.infix())
}

func (p *parser) atom() api.Node {
	t := p.next()
	switch t.Kind {
	case token.Int:
		p.at++
		return node(syntax.IntLit, t.Text)
	case token.Float:
		p.at++
		return node(syntax.FloatLit, t.Text)
	case token.String:
		p.at++
		return node(syntax.StringLit, t.Text)
	case token.Ident:
		return node(syntax.Name, p.name())
	}
	switch text := p.fixed(); text {
	case "true", "false":
		p.at++
		return node(syntax.BoolLit, text)
	case "this":
		p.at++
		return node(syntax.This, "")
	case "var", "let":
		p.at++
		name, typ := p.typed()
		return node(syntax.Decl, name, word(text), typ)
	}
	return p.compound()
}

// brackets reads an expression, or a tuple, behind its opening bracket.
func (p *parser) brackets() api.Node {
	l := list(p, p.seq)
	p.want(")")
	if len(l) == 1 {
		return l[0]
	}
	return api.Node{Kind: syntax.Tuple, Kids: l}
}

// array reads an array behind its opening bracket.
func (p *parser) array() api.Node {
	p.want("as")
	typ := p.typ()
	p.want(":")
	var elements []api.Node
	if !p.is("]") {
		elements = dissolved(nil, p.seq())
	}
	p.want("]")
	return joined(syntax.Array, "", elements, typ)
}

// lambda reads a lambda behind its opening bracket.
func (p *parser) lambda() api.Node {
	params := p.params()
	var captures []api.Node
	if p.take("(") {
		captures = list(p, p.capture)
		p.want(")")
	}
	result := p.behind(":", p.typ)
	mark := p.mark()
	p.want("=>")
	body := p.seq()
	p.want("}")
	cap := p.perhaps(p.caps)
	return joined(syntax.Lambda, "", captures, cap, params, result, mark, body)
}

func (p *parser) capture() api.Node {
	name, typ := p.typed()
	p.want("=")
	return node(syntax.Capture, name, typ, p.infix())
}
