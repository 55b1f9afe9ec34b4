package parser

import (
	"hackamore/api"
	"hackamore/syntax"
)

// compound reads an atom that begins with a bracket or a keyword.
func (p *parser) compound() api.Node {
	switch text := p.one("(", "[", "{", "if", "ifdef", "while", "repeat", "for", "with", "match", "try", "recover", "object"); text {
	case "(":
		return p.brackets()
	case "[":
		return p.array()
	case "{":
		return p.lambda()
	case "if":
		return p.branch()
	case "ifdef":
		return p.ifdef()
	case "while":
		return p.while()
	case "repeat":
		return p.repeat()
	case "for":
		return p.loop()
	case "with":
		return p.with()
	case "match":
		return p.match()
	case "try":
		return p.attempt()
	case "recover":
		return p.recovered()
	}
	return p.object()
}

// branch reads an if behind its keyword, or behind an elseif.
func (p *parser) branch() api.Node {
	condition := p.seq()
	p.want("then")
	then := p.seq()
	if p.take("elseif") {
		return node(syntax.If, "", condition, then, p.branch())
	}
	return node(syntax.If, "", condition, then, p.otherwise())
}

// otherwise reads the last parts of an expression: perhaps an else, and the end.
func (p *parser) otherwise() api.Node {
	n := p.behind("else", p.seq)
	p.want("end")
	return n
}

func (p *parser) ifdef() api.Node {
	condition := p.infix()
	p.want("then")
	then := p.seq()
	return node(syntax.Ifdef, "", condition, then, p.otherwise())
}

func (p *parser) while() api.Node {
	condition := p.seq()
	p.want("do")
	body := p.seq()
	return node(syntax.While, "", condition, body, p.otherwise())
}

func (p *parser) repeat() api.Node {
	body := p.seq()
	p.want("until")
	condition := p.seq()
	p.want("end")
	return node(syntax.Repeat, "", body, condition)
}

func (p *parser) loop() api.Node {
	name, typ := p.typed()
	p.want("in")
	iterator := p.seq()
	p.want("do")
	body := p.seq()
	return node(syntax.For, name, typ, iterator, body, p.otherwise())
}

func (p *parser) with() api.Node {
	name, typ := p.typed()
	p.want("=")
	value := p.infix()
	p.want("do")
	body := p.seq()
	p.want("end")
	return node(syntax.With, name, typ, value, body)
}

func (p *parser) match() api.Node {
	operand := p.seq()
	cases := []api.Node{p.oneCase()}
	for p.is("|") {
		cases = append(cases, p.oneCase())
	}
	otherwise := p.otherwise()
	return joined(syntax.Match, "", cases, operand, otherwise)
}

func (p *parser) oneCase() api.Node {
	p.want("|")
	pattern := p.infix()
	guard := p.behind("if", p.infix)
	p.want("=>")
	return node(syntax.Case, "", pattern, guard, p.seq())
}

func (p *parser) attempt() api.Node {
	body := p.seq()
	otherwise := p.behind("else", p.seq)
	then := p.behind("then", p.seq)
	p.want("end")
	return node(syntax.Try, "", body, otherwise, then)
}

func (p *parser) recovered() api.Node {
	cap := p.perhaps(p.caps)
	body := p.seq()
	p.want("end")
	return node(syntax.Recover, "", cap, body)
}

func (p *parser) object() api.Node {
	cap := p.perhaps(p.caps)
	provides := p.behind("is", p.typ)
	members := p.members()
	p.want("end")
	return joined(syntax.Object, "", members, cap, provides)
}
