package parser

import (
	"strings"

	"hackamore/api"
	"hackamore/syntax"
	"hackamore/token"
)

func (p *parser) module() api.Node {
	var kids []api.Node
	for p.take("use") {
		kids = append(kids, p.use())
	}
	for !p.ended() {
		kids = append(kids, p.entity())
	}
	return api.Node{Kind: syntax.Module, Kids: kids}
}

func (p *parser) use() api.Node {
	t := p.next()
	if t.Kind != token.String {
		p.fail(ErrToken)
	}
	for _, part := range strings.Split(t.Text, "/") {
		if !token.IsIdent(part) {
			p.fail(api.ErrForm)
		}
	}
	p.at++
	return node(syntax.Use, t.Text, p.behind("if", p.infix))
}

func (p *parser) entity() api.Node {
	kind := p.one("class", "actor", "primitive", "trait", "interface", "type")
	cap := p.perhaps(p.caps)
	name := p.name()
	bounds := p.bounds()
	if kind == "type" {
		p.want("is")
		return node(syntax.Entity, name, word(kind), cap, bounds, p.typ())
	}
	provides := p.behind("is", p.typ)
	return joined(syntax.Entity, name, p.members(), word(kind), cap, bounds, provides)
}

func (p *parser) bounds() api.Node {
	if !p.take("[") {
		return node(syntax.Bounds, "")
	}
	l := list(p, p.bound)
	p.want("]")
	return api.Node{Kind: syntax.Bounds, Kids: l}
}

func (p *parser) bound() api.Node {
	name := p.name()
	return node(syntax.Bound, name, p.behind(":", p.typ))
}

// members reads fields and then methods.
func (p *parser) members() []api.Node {
	var l []api.Node
	for p.is("var") || p.is("let") {
		l = append(l, p.field())
	}
	for p.is("new") || p.is("fun") || p.is("be") {
		l = append(l, p.method())
	}
	return l
}

func (p *parser) field() api.Node {
	kind := p.one("var", "let")
	name, typ := p.typed()
	return node(syntax.Field, name, word(kind), typ, p.behind("=", p.infix))
}

// typed reads a name with its type.
func (p *parser) typed() (string, api.Node) {
	name := p.name()
	p.want(":")
	return name, p.typ()
}

func (p *parser) method() api.Node {
	kind := p.one("new", "fun", "be")
	cap := p.perhaps(p.caps)
	name := p.name()
	bounds := p.bounds()
	params := p.params()
	result := p.behind(":", p.typ)
	mark := p.mark()
	body := p.behind("=>", p.seq)
	return node(syntax.Method, name, word(kind), cap, bounds, params, result, mark, body)
}

func (p *parser) params() api.Node {
	p.want("(")
	if p.take(")") {
		return node(syntax.Params, "")
	}
	l := list(p, p.param)
	p.want(")")
	return api.Node{Kind: syntax.Params, Kids: l}
}

func (p *parser) param() api.Node {
	name, typ := p.typed()
	return node(syntax.Param, name, typ, p.behind("=", p.infix))
}

// typ reads a type.
func (p *parser) typ() api.Node {
	left := p.simple()
	if !p.take("->") {
		return left
	}
	return node(syntax.ArrowType, "", left, p.typ())
}

// simple reads a type that is no arrow.
func (p *parser) simple() api.Node {
	switch {
	case p.take("this"):
		return node(syntax.ThisType, "")
	case p.take("("):
		return p.bracketed()
	case p.take("{"):
		return p.lambdaType()
	}
	return p.named()
}

func (p *parser) named() api.Node {
	name := p.name()
	if p.onLine() && p.take(".") {
		name += "." + p.name()
	}
	var args []api.Node
	if p.onLine() && p.take("[") {
		args = list(p, p.typ)
		p.want("]")
	}
	cap := p.perhaps(p.anyCaps)
	return joined(syntax.NamedType, name, args, cap, p.aliasing())
}

// aliasing reads the mark of a type.
func (p *parser) aliasing() api.Node {
	if p.is("^") || p.is("!") {
		return word(p.one("^", "!"))
	}
	return word("")
}

// bracketed reads a type behind an opening bracket.
func (p *parser) bracketed() api.Node {
	l := list(p, p.inner)
	p.want(")")
	if len(l) == 1 {
		return l[0]
	}
	return api.Node{Kind: syntax.TupleType, Kids: l}
}

// inner reads a type, a union or an intersection.
func (p *parser) inner() api.Node {
	l := []api.Node{p.typ()}
	kind, sign, other := syntax.UnionType, "|", "&"
	if p.is("&") {
		kind, sign, other = syntax.BothType, "&", "|"
	}
	for p.take(sign) {
		l = append(l, p.typ())
		if p.is(other) {
			p.fail(ErrMix)
		}
	}
	if len(l) == 1 {
		return l[0]
	}
	return api.Node{Kind: kind, Kids: l}
}

// lambdaType reads a type of functions behind its opening bracket.
func (p *parser) lambdaType() api.Node {
	p.want("(")
	var params []api.Node
	if !p.is(")") {
		params = list(p, p.typ)
	}
	p.want(")")
	result := p.behind(":", p.typ)
	mark := p.mark()
	p.want("}")
	cap := p.perhaps(p.caps)
	return joined(syntax.LambdaType, "", params, cap, p.aliasing(), mark, result)
}
