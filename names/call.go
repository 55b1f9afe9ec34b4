package names

import (
	"hackamore/api"
	"hackamore/located"
	"hackamore/syntax"
)

// call resolves a call of a method, or of a constructor.
func (b *body) call(n *located.Node) api.Expr {
	if typ := b.numberType(n); typ != "" {
		return b.number(n.Kids[2], typ)
	}
	callee, args := n.Kids[0], n.Kids[2:]
	var types []*located.Node
	if callee.Is(syntax.Qualify) {
		callee, types = callee.Kids[0], callee.Kids[1:]
	}
	receiver := callee.Kids[0]
	name, typeArgs := entityName(receiver)
	if name == nil {
		return b.invoke(callee.Text, b.expr(receiver), types, args)
	}
	u := b.constructed(name)
	made := u.makes[callee.Text]
	if !made && u.kind != api.Primitive {
		b.fail(name, api.ErrNone)
	}
	t := b.entityType(name, u, typeArgs)
	if !made {
		return b.invoke(callee.Text, unitOf(t), types, args)
	}
	e := api.Expr{Op: api.OpNew, Text: callee.Text, Types: []api.Type{t}}
	e.Types = append(e.Types, b.wholes(types)...)
	e.Kids = b.exprs(args)
	return e
}

// invoke resolves the rest of a call of a method.
func (b *body) invoke(method string, receiver api.Expr, types, args []*located.Node) api.Expr {
	e := operation(api.OpCall, method, receiver)
	e.Types = b.wholes(types)
	e.Kids = append(e.Kids, b.exprs(args)...)
	return e
}

// constructed returns the entity of a name whose method is called.
func (b *body) constructed(name *located.Node) *unit {
	param, u := b.find(name.Text)
	if param {
		b.fail(name, ErrKind)
	}
	if u == nil {
		b.fail(name, api.ErrScope)
	}
	if u.isAlias() || u.kind == api.Trait || u.kind == api.Interface {
		b.fail(name, ErrKind)
	}
	return u
}

// numberType returns the number type of a call that is a literal of it, or no text.
func (b *body) numberType(n *located.Node) string {
	callee := n.Kids[0]
	if !callee.Is(syntax.Dot) || callee.Text != "create" || !callee.Kids[0].IsUpper() || len(n.Kids) != 3 {
		return ""
	}
	_, u := b.find(callee.Kids[0].Text)
	if u == nil {
		return ""
	}
	float := u.name == "F32" || u.name == "F64"
	if u.ready != nil && (n.Kids[2].Is(syntax.IntLit) || float && n.Kids[2].Is(syntax.FloatLit)) {
		return u.name
	}
	return ""
}
