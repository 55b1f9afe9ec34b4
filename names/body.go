package names

import (
	"strconv"
	"strings"

	"hackamore/api"
	"hackamore/located"
	"hackamore/num"
	"hackamore/syntax"
)

// scope has the local variables of a body, by the names that they have in it.
type scope struct {
	outer *scope
	names map[string]string
}

// body is a method whose body is resolved.
type body struct {
	*view
	counts map[string]int
	scope  *scope
}

// unique returns the name of a further local variable of the method.
func (b *body) unique(name string) string {
	b.counts[name]++
	if n := b.counts[name]; n > 1 {
		return name + "." + strconv.Itoa(n)
	}
	return name
}

// declare puts a local variable into scope.
func (b *body) declare(unique, name string) string {
	b.scope.names[name] = unique
	return unique
}

// local returns the local variable that a lower name is; what has another name is out of scope.
func (b *body) local(n *located.Node) string {
	for s := b.scope; s != nil; s = s.outer {
		if name, ok := s.names[n.Text]; ok {
			return name
		}
	}
	b.fail(n, api.ErrScope)
	return ""
}

// inside runs a function within a scope of its own.
func (b *body) inside(run func() api.Expr) api.Expr {
	b.scope = &scope{b.scope, map[string]string{}}
	e := run()
	b.scope = b.scope.outer
	return e
}

// within resolves a body; its declarations end with it.
func (b *body) within(n *located.Node) api.Expr {
	return b.inside(func() api.Expr { return b.expr(n) })
}

// part is within of a part that may be missing.
func (b *body) part(n *located.Node) api.Expr {
	if n.Is(syntax.Nothing) {
		return none()
	}
	return b.within(n)
}

func none() api.Expr { return unitOf(named("None", api.Val)) }

func unitOf(t api.Type) api.Expr { return api.Expr{Op: api.OpUnit, Types: []api.Type{t}} }

func operation(op int, text string, kids ...api.Expr) api.Expr {
	return api.Expr{Op: op, Text: text, Kids: kids}
}

func literal(text, typ string) api.Expr {
	return api.Expr{Op: api.OpLit, Text: text, Types: []api.Type{named(typ, api.Val)}}
}

// rules returns how the kinds of expressions are resolved.
func rules() map[int]func(b *body, n *located.Node) api.Expr {
	leaf := func(op int) func(b *body, n *located.Node) api.Expr {
		return func(b *body, n *located.Node) api.Expr { return operation(op, "") }
	}
	return map[int]func(b *body, n *located.Node) api.Expr{
		syntax.IntLit:    func(b *body, n *located.Node) api.Expr { return b.number(n, "USize") },
		syntax.FloatLit:  func(b *body, n *located.Node) api.Expr { return b.number(n, "F64") },
		syntax.StringLit: func(b *body, n *located.Node) api.Expr { return literal(n.Text, "String") },
		syntax.BoolLit:   func(b *body, n *located.Node) api.Expr { return literal(n.Text, "Bool") },
		syntax.Name:      (*body).name,
		syntax.This:      leaf(api.OpThis),
		syntax.Seq:       func(b *body, n *located.Node) api.Expr { return b.all(api.OpSeq, n.Kids) },
		syntax.Decl:      (*body).decl,
		syntax.Assign:    (*body).assign,
		syntax.Dot:       (*body).dot,
		syntax.Call:      (*body).call,
		syntax.Qualify:   (*body).qualify,
		syntax.Tuple:     func(b *body, n *located.Node) api.Expr { return b.all(api.OpTuple, n.Kids) },
		syntax.Binary:    (*body).binary,
		syntax.Consume:   (*body).consume,
		syntax.Recover:   (*body).recovered,
		syntax.If:        func(b *body, n *located.Node) api.Expr { return b.branches(api.OpIf, n) },
		syntax.While:     func(b *body, n *located.Node) api.Expr { return b.branches(api.OpWhile, n) },
		syntax.Match:     (*body).match,
		syntax.Try:       (*body).attempt,
		syntax.Error:     leaf(api.OpError),
		syntax.Return:    (*body).returned,
		syntax.Break:     leaf(api.OpBreak),
		syntax.Continue:  leaf(api.OpContinue),
	}
}

func (b *body) expr(n *located.Node) api.Expr { return b.r.rules[n.Kind](b, n) }

func (b *body) exprs(l []*located.Node) []api.Expr {
	var out []api.Expr
	for _, n := range l {
		out = append(out, b.expr(n))
	}
	return out
}

func (b *body) all(op int, l []*located.Node) api.Expr {
	return operation(op, "", b.exprs(l)...)
}

// wholes resolves type arguments.
func (b *body) wholes(l []*located.Node) []api.Type {
	var out []api.Type
	for _, n := range l {
		out = append(out, b.typ(n, false).whole())
	}
	return out
}

// number resolves a literal of a number type.
func (b *body) number(n *located.Node, typ string) api.Expr {
	if _, e := num.Parse(typ, n.Text); e != api.OK {
		b.fail(n, ErrLiteral)
	}
	return literal(n.Text, typ)
}

// name resolves a name that stands alone: a local variable, or a primitive.
func (b *body) name(n *located.Node) api.Expr {
	if n.IsLower() {
		return operation(api.OpLocal, b.local(n))
	}
	param, u := b.find(n.Text)
	if !param && u == nil {
		b.fail(n, api.ErrScope)
	}
	if param || u.kind != api.Primitive {
		b.fail(n, ErrKind)
	}
	return unitOf(b.entityType(n, u, nil))
}

// entityType returns the type of an entity that stands at a name with type arguments.
func (b *body) entityType(n *located.Node, u *unit, args []*located.Node) api.Type {
	if len(args) != len(u.params) {
		b.fail(n, ErrArity)
	}
	t := named(u.name, u.cap)
	t.Args = b.wholes(args)
	return t
}

// declared resolves a declaration; its name is not in scope yet.
func (b *body) declared(n *located.Node) api.Expr {
	op := api.OpVar
	if n.Kids[0].Text == "let" {
		op = api.OpLet
	}
	name := b.unique(n.Text)
	return api.Expr{Op: op, Text: name, Types: b.wholes(n.Kids[1:])}
}

func (b *body) decl(n *located.Node) api.Expr {
	e := b.declared(n)
	b.declare(e.Text, n.Text)
	return e
}

func (b *body) assign(n *located.Node) api.Expr {
	left, right := n.Kids[0], n.Kids[1]
	switch {
	case left.Is(syntax.Decl):
		e := b.declared(left)
		e.Kids = []api.Expr{b.expr(right)}
		b.declare(e.Text, left.Text)
		return e
	case left.IsUpper():
		b.fail(left, ErrKind)
	case left.Is(syntax.Name):
		name := b.local(left)
		return operation(api.OpAssign, name, b.expr(right))
	}
	if _, ok := item(left.Text); ok {
		b.fail(left, ErrKind)
	}
	b.needsCall(left)
	object := b.expr(left.Kids[0])
	return operation(api.OpSet, left.Text, object, b.expr(right))
}

// item returns the index of the element of a tuple with a name.
func item(name string) (int, bool) {
	digits, ok := strings.CutPrefix(name, "_")
	i, e := strconv.Atoi(digits)
	if !ok || e != nil || i < 1 || strconv.Itoa(i) != digits {
		return 0, false
	}
	return i - 1, true
}

// entityName returns the upper name, perhaps with type arguments, that an expression is.
func entityName(n *located.Node) (name *located.Node, args []*located.Node) {
	switch {
	case n.IsUpper():
		return n, nil
	case n.Is(syntax.Qualify) && n.Kids[0].IsUpper():
		return n.Kids[0], n.Kids[1:]
	}
	return nil, nil
}

// needsCall refuses a Dot of the name of an entity.
func (b *body) needsCall(n *located.Node) {
	if name, _ := entityName(n.Kids[0]); name != nil {
		b.known(name)
		b.fail(n, ErrKind)
	}
}

// known refuses an upper name that is nothing.
func (b *body) known(n *located.Node) {
	if param, u := b.find(n.Text); !param && u == nil {
		b.fail(n, api.ErrScope)
	}
}

func (b *body) dot(n *located.Node) api.Expr {
	b.needsCall(n)
	if i, ok := item(n.Text); ok {
		return operation(api.OpItem, strconv.Itoa(i), b.expr(n.Kids[0]))
	}
	return operation(api.OpGet, n.Text, b.expr(n.Kids[0]))
}

// qualify refuses type arguments of what is not called.
func (b *body) qualify(n *located.Node) api.Expr {
	switch of := n.Kids[0]; {
	case of.IsUpper():
		b.known(of)
	case of.IsLower():
		b.local(of)
	}
	b.fail(n, ErrKind)
	return api.Expr{}
}

func (b *body) binary(n *located.Node) api.Expr {
	same := b.all(api.OpIs, n.Kids)
	if n.Text == "is" {
		return same
	}
	return operation(api.OpIf, "", same, literal("false", "Bool"), literal("true", "Bool"))
}

func (b *body) consume(n *located.Node) api.Expr {
	if !n.Kids[0].IsLower() {
		b.fail(n, ErrKind)
	}
	return operation(api.OpConsume, b.local(n.Kids[0]))
}

func (b *body) recovered(n *located.Node) api.Expr {
	cap := capability(n.Kids[0].Text)
	if cap == api.CapNone {
		cap = api.Iso
	}
	e := operation(api.OpRecover, "", b.within(n.Kids[1]))
	e.Types = []api.Type{{Kind: api.TypeSelf, Cap: cap}}
	return e
}

// branches resolves an if or a while: what its condition declares ends with it.
func (b *body) branches(op int, n *located.Node) api.Expr {
	return b.inside(func() api.Expr {
		condition := b.expr(n.Kids[0])
		first := b.within(n.Kids[1])
		return operation(op, "", condition, first, b.part(n.Kids[2]))
	})
}

func (b *body) match(n *located.Node) api.Expr {
	return b.inside(func() api.Expr {
		e := operation(api.OpMatch, "", b.expr(n.Kids[0]))
		var otherwise []api.Expr
		if !n.Kids[1].Is(syntax.Nothing) {
			otherwise = append(otherwise, b.otherwise(n.Kids[1]))
		}
		for _, c := range n.Kids[2:] {
			e.Kids = append(e.Kids, b.inside(func() api.Expr { return b.oneCase(c) }))
		}
		e.Kids = append(e.Kids, otherwise...)
		return e
	})
}

// otherwise resolves the else of a match: a case that everything matches.
func (b *body) otherwise(n *located.Node) api.Expr {
	name := b.unique("_")
	return b.inside(func() api.Expr {
		b.declare(name, "_")
		e := operation(api.OpCase, name, api.Expr{}, b.expr(n))
		e.Types = []api.Type{named("Any", api.Tag)}
		return e
	})
}

func (b *body) oneCase(n *located.Node) api.Expr {
	pattern := b.decl(n.Kids[0])
	guard := api.Expr{}
	if !n.Kids[1].Is(syntax.Nothing) {
		guard = b.expr(n.Kids[1])
	}
	e := operation(api.OpCase, pattern.Text, guard, b.expr(n.Kids[2]))
	e.Types = pattern.Types
	return e
}

func (b *body) attempt(n *located.Node) api.Expr {
	first := b.within(n.Kids[0])
	otherwise := b.part(n.Kids[1])
	return operation(api.OpTry, "", first, otherwise, b.part(n.Kids[2]))
}

func (b *body) returned(n *located.Node) api.Expr {
	if n.Kids[0].Is(syntax.Nothing) {
		return operation(api.OpReturn, "", none())
	}
	return b.all(api.OpReturn, n.Kids)
}
