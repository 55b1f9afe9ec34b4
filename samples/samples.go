// Package samples makes well-formed trees of all kinds, by numbers, for tests of the layers.
package samples

import (
	"hackamore/api"
	"hackamore/syntax"
)

// Maker makes trees; equal makers make equal ones.
type Maker struct {
	state uint64
	// Written leaves out the trees that have no text.
	Written bool
}

// New returns a maker with a number.
func New(seed uint64) *Maker { return &Maker{state: seed*2862933555777941757 + 3037000493} }

// Below returns a number from 0 to n - 1.
func (m *Maker) Below(n int) int {
	m.state ^= m.state << 13
	m.state ^= m.state >> 7
	m.state ^= m.state << 17
	return int(m.state >> 33 % uint64(n))
}

// One returns one of several texts.
func (m *Maker) One(texts ...string) string { return texts[m.Below(len(texts))] }

func node(kind int, text string, kids ...api.Node) api.Node {
	return api.Node{Kind: kind, Text: text, Kids: kids}
}

func nothing() api.Node { return node(syntax.Nothing, "") }

// Name returns a name.
func (m *Maker) Name() string {
	return m.One("a", "b", "c", "x", "x'", "_", "_1", "_k", "foo", "apply", "create", "A", "B", "N", "_O1", "U8")
}

func (m *Maker) word(texts ...string) api.Node { return node(syntax.Word, m.One(texts...)) }

func (m *Maker) cap() api.Node {
	return m.word("", "", "", "iso", "trn", "ref", "val", "box", "tag")
}

func (m *Maker) mark() api.Node { return m.word("", "", "", "^", "!") }

func (m *Maker) partial() api.Node { return m.word("", "", "?") }

// perhaps returns what a function makes, or a Nothing.
func (m *Maker) perhaps(one func(depth int) api.Node, depth int) api.Node {
	if m.Below(2) == 0 {
		return nothing()
	}
	return one(depth)
}

// some returns at least so many nodes, and up to two more, behind others.
func (m *Maker) some(least int, one func(depth int) api.Node, depth int, ahead ...api.Node) []api.Node {
	l := ahead
	for range least + m.Below(3) {
		l = append(l, one(depth))
	}
	return l
}

// Module returns a module.
func (m *Maker) Module(depth int) api.Node {
	n := node(syntax.Module, "")
	for range m.Below(3) {
		n.Kids = append(n.Kids, node(syntax.Use, m.One("a", "a/b", "main/x'"), m.perhaps(m.Expr, 1)))
	}
	for range 1 + m.Below(3) {
		n.Kids = append(n.Kids, m.entity(depth))
	}
	return n
}

func (m *Maker) entity(depth int) api.Node {
	kind := m.word("class", "class", "actor", "primitive", "trait", "interface", "type")
	if kind.Text == "type" {
		return node(syntax.Entity, m.Name(), kind, m.cap(), m.bounds(2), m.Type(2))
	}
	head := []api.Node{kind, m.cap(), m.bounds(2), m.perhaps(m.Type, 2)}
	return api.Node{Kind: syntax.Entity, Text: m.Name(), Kids: append(head, m.members(depth)...)}
}

func (m *Maker) members(depth int) []api.Node {
	l := m.some(0, m.field, depth)
	l = append(l, m.some(0, m.method, depth)...)
	if !m.Written && m.Below(3) == 0 {
		l = append(l, m.field(depth))
	}
	return l
}

func (m *Maker) field(depth int) api.Node {
	return node(syntax.Field, m.Name(), m.word("var", "let"), m.Type(2), m.perhaps(m.Expr, depth-1))
}

func (m *Maker) method(depth int) api.Node {
	return node(syntax.Method, m.Name(), m.word("new", "fun", "be"), m.cap(), m.bounds(1), m.params(1),
		m.perhaps(m.Type, 2), m.partial(), m.perhaps(m.Expr, depth))
}

func (m *Maker) bounds(depth int) api.Node {
	bound := func(depth int) api.Node { return node(syntax.Bound, m.Name(), m.perhaps(m.Type, depth)) }
	if m.Below(3) > 0 {
		return node(syntax.Bounds, "")
	}
	return api.Node{Kind: syntax.Bounds, Kids: m.some(0, bound, depth)}
}

func (m *Maker) params(depth int) api.Node {
	param := func(depth int) api.Node {
		return node(syntax.Param, m.Name(), m.Type(1), m.perhaps(m.Expr, depth))
	}
	return api.Node{Kind: syntax.Params, Kids: m.some(0, param, depth)}
}

// Type returns a type.
func (m *Maker) Type(depth int) api.Node {
	kind := syntax.NamedType
	if depth > 0 {
		kind += m.Below(7)
	}
	switch kind {
	case syntax.UnionType, syntax.BothType, syntax.TupleType:
		return api.Node{Kind: kind, Kids: m.some(2, m.Type, depth-1)}
	case syntax.ArrowType:
		return node(kind, "", m.Type(depth-1), m.Type(depth-1))
	case syntax.ThisType:
		return node(kind, "")
	case syntax.LambdaType:
		return api.Node{Kind: kind, Kids: m.some(0, m.Type, depth-1, m.cap(), m.mark(), m.partial(), m.perhaps(m.Type, depth-1))}
	}
	cap := m.word("", "", "val", "ref", "iso", "#read", "#any")
	n := node(syntax.NamedType, m.One("A", "B", "N", "U8", "p.A", "x"), cap, m.mark())
	if depth > 0 {
		n.Kids = m.some(0, m.Type, depth-1, n.Kids...)
	}
	return n
}

// Expr returns an expression.
func (m *Maker) Expr(depth int) api.Node {
	if depth <= 0 || m.Below(6) == 0 {
		return m.simple()
	}
	for {
		kind := syntax.Seq + m.Below(syntax.Lambda-syntax.Seq+1)
		if n, ok := m.compound(kind, depth-1); ok {
			return n
		}
	}
}

// stat returns an expression that is no Seq.
func (m *Maker) stat(depth int) api.Node {
	for {
		if n := m.Expr(depth); n.Kind != syntax.Seq {
			return n
		}
	}
}

// simple returns an expression without parts.
func (m *Maker) simple() api.Node {
	switch m.Below(8) {
	case 0:
		return node(syntax.IntLit, m.One("0", "7", "340282366920938463463374607431768211455"))
	case 1:
		return node(syntax.FloatLit, m.One("1.5", "0.0e-7", "12e+3"))
	case 2:
		return node(syntax.StringLit, m.One("", "a\"\n", "\x00\x7fé"))
	case 3:
		return node(syntax.BoolLit, m.One("true", "false"))
	case 4:
		return node(syntax.This, "")
	}
	return node(syntax.Name, m.Name())
}

// compound returns an expression of a kind, if it is one with parts or a jump.
func (m *Maker) compound(kind, depth int) (api.Node, bool) {
	e := func() api.Node { return m.Expr(depth) }
	switch kind {
	case syntax.Seq:
		return api.Node{Kind: kind, Kids: m.some(2, m.stat, depth)}, true
	case syntax.Decl:
		return m.decl(depth), true
	case syntax.Assign:
		return node(kind, "", m.left(depth), e()), true
	case syntax.Dot, syntax.Tilde, syntax.Chain:
		return node(kind, m.Name(), e()), true
	case syntax.Call:
		return m.call(depth), true
	case syntax.Qualify:
		return api.Node{Kind: kind, Kids: m.some(1, m.Type, 1, e())}, true
	case syntax.Tuple:
		return api.Node{Kind: kind, Kids: m.some(2, m.Expr, depth)}, true
	case syntax.Array:
		if m.Written {
			return api.Node{Kind: kind, Kids: m.some(0, m.stat, depth, m.Type(1))}, true
		}
		return api.Node{Kind: kind, Kids: m.some(0, m.Expr, depth, m.Type(1))}, true
	case syntax.Unary:
		return node(kind, m.One("not", "-"), e()), true
	case syntax.Binary:
		return node(kind, m.One("and", "or", "xor", "is", "isnt", "+", "-", "*?", "<<", "!=", "<="), e(), e()), true
	case syntax.As:
		return node(kind, "", e(), m.Type(1)), true
	case syntax.Consume:
		return node(kind, "", e()), true
	case syntax.Error, syntax.Break, syntax.Continue:
		return node(kind, ""), true
	case syntax.Return:
		return node(kind, "", m.perhaps(m.Expr, depth)), true
	}
	return m.block(kind, depth)
}

// block returns an expression of a kind that stands on several lines.
func (m *Maker) block(kind, depth int) (api.Node, bool) {
	e := func() api.Node { return m.Expr(depth) }
	perhaps := func() api.Node { return m.perhaps(m.Expr, depth) }
	switch kind {
	case syntax.Recover:
		return node(kind, "", m.cap(), e()), true
	case syntax.If, syntax.Ifdef, syntax.While:
		return node(kind, "", e(), e(), perhaps()), true
	case syntax.Repeat:
		return node(kind, "", e(), e()), true
	case syntax.For:
		return node(kind, m.Name(), m.Type(1), e(), e(), perhaps()), true
	case syntax.With:
		return node(kind, m.Name(), m.Type(1), e(), e()), true
	case syntax.Match:
		return api.Node{Kind: kind, Kids: m.some(1, m.oneCase, depth, e(), perhaps())}, true
	case syntax.Try:
		return node(kind, "", e(), perhaps(), perhaps()), true
	case syntax.Object:
		head := []api.Node{m.cap(), m.perhaps(m.Type, 1)}
		return api.Node{Kind: kind, Kids: append(head, m.members(depth-1)...)}, true
	case syntax.Lambda:
		capture := func(depth int) api.Node { return node(syntax.Capture, m.Name(), m.Type(1), m.Expr(depth)) }
		head := []api.Node{m.cap(), m.params(1), m.perhaps(m.Type, 1), m.partial(), e()}
		return api.Node{Kind: kind, Kids: m.some(0, capture, depth-1, head...)}, true
	}
	return api.Node{}, false
}

func (m *Maker) decl(int) api.Node {
	return node(syntax.Decl, m.Name(), m.word("var", "let"), m.Type(1))
}

// left returns the left side of an assignment.
func (m *Maker) left(depth int) api.Node {
	switch m.Below(7) {
	case 0, 1:
		return node(syntax.Name, m.Name())
	case 2, 3:
		return m.decl(depth)
	case 4:
		return node(syntax.Dot, m.Name(), m.Expr(depth))
	case 5:
		return m.call(depth)
	}
	if depth <= 0 {
		return m.decl(depth)
	}
	return api.Node{Kind: syntax.Tuple, Kids: m.some(2, m.left, depth-1)}
}

func (m *Maker) call(depth int) api.Node {
	named := func(depth int) api.Node { return node(syntax.Named, m.Name(), m.Expr(depth)) }
	l := m.some(0, m.Expr, depth, m.Expr(depth), m.partial())
	if m.Below(4) == 0 {
		l = m.some(1, named, depth, l...)
	}
	return api.Node{Kind: syntax.Call, Kids: l}
}

func (m *Maker) oneCase(depth int) api.Node {
	pattern := m.Expr(depth)
	if m.Below(2) == 0 {
		pattern = m.decl(depth)
	}
	return node(syntax.Case, "", pattern, m.perhaps(m.Expr, depth), m.Expr(depth))
}
