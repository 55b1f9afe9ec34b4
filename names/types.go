package names

import (
	"strconv"

	"hackamore/api"
	"hackamore/located"
	"hackamore/syntax"
)

// named returns the type of an entity's name.
func named(name string, cap int) api.Type {
	return api.Type{Kind: api.TypeName, Name: name, Cap: cap}
}

// inner is a type whose equal parts are one and the same, since aliases may make types of a few names very large.
type inner struct {
	kind      int
	name      string
	cap, mark int
	args      []*inner
	id        int
	open      bool // whether there are type parameters in it
}

// whole returns the type with memory of its own.
func (t *inner) whole() api.Type {
	w := api.Type{Kind: t.kind, Name: t.name, Cap: t.cap, Mark: t.mark}
	for _, a := range t.args {
		w.Args = append(w.Args, a.whole())
	}
	return w
}

// types are the types that there are, by what they consist of.
type types map[string]*inner

// of returns the type of these parts.
func (l types) of(kind int, name string, cap, mark int, args ...*inner) *inner {
	key := strconv.Itoa(kind) + " " + strconv.Itoa(cap) + " " + strconv.Itoa(mark) + " " + name
	open := kind == api.TypeParam
	for _, a := range args {
		key += " " + strconv.Itoa(a.id)
		open = open || a.open
	}
	if t := l[key]; t != nil {
		return t
	}
	t := &inner{kind, name, cap, mark, args, len(l), open}
	l[key] = t
	return t
}

// replace returns a type with other ones in the places of type parameters.
func (l types) replace(t *inner, by map[string]*inner) *inner {
	done := map[int]*inner{}
	var visit func(t *inner) *inner
	visit = func(t *inner) *inner {
		if !t.open {
			return t
		}
		if done[t.id] == nil {
			done[t.id] = l.replaced(t, by, visit)
		}
		return done[t.id]
	}
	return visit(t)
}

// replaced replaces a type with type parameters in it, its parts by a function.
func (l types) replaced(t *inner, by map[string]*inner, visit func(t *inner) *inner) *inner {
	if t.kind == api.TypeParam {
		if arg := by[t.name]; arg != nil {
			return l.marked(arg, t.cap, t.mark)
		}
		return t
	}
	var args []*inner
	for _, a := range t.args {
		args = append(args, visit(a))
	}
	return l.of(t.kind, t.name, t.cap, t.mark, args...)
}

// marked returns a type with a capability and a mark, if there are such ones, for all of its parts.
func (l types) marked(t *inner, cap, mark int) *inner {
	if cap == api.CapNone && mark == api.Plain {
		return t
	}
	done := map[int]*inner{}
	var visit func(t *inner) *inner
	visit = func(t *inner) *inner {
		if done[t.id] == nil {
			done[t.id] = l.markedPart(t, cap, mark, visit)
		}
		return done[t.id]
	}
	return visit(t)
}

func (l types) markedPart(t *inner, cap, mark int, visit func(t *inner) *inner) *inner {
	switch t.kind {
	case api.TypeName, api.TypeParam:
		if cap == api.CapNone {
			cap = t.cap
		}
		if mark == api.Plain {
			mark = t.mark
		}
		return l.of(t.kind, t.name, cap, mark, t.args...)
	case api.TypeArrow:
		return l.of(t.kind, "", 0, 0, t.args[0], visit(t.args[1]))
	case api.TypeUnion, api.TypeBoth, api.TypeTuple:
		var args []*inner
		for _, a := range t.args {
			args = append(args, visit(a))
		}
		return l.of(t.kind, "", 0, 0, args...)
	}
	return t
}

// capability returns the capability with a name, or CapNone.
func capability(name string) int {
	switch name {
	case "iso":
		return api.Iso
	case "trn":
		return api.Trn
	case "ref":
		return api.Ref
	case "val":
		return api.Val
	case "box":
		return api.Box
	case "tag":
		return api.Tag
	case "#read":
		return api.CapRead
	case "#send":
		return api.CapSend
	case "#share":
		return api.CapShare
	case "#alias":
		return api.CapAlias
	case "#any":
		return api.CapAny
	}
	return api.CapNone
}

func mark(text string) int {
	switch text {
	case "^":
		return api.Ephemeral
	case "!":
		return api.Aliased
	}
	return api.Plain
}

// view is where types stand: a source, the type parameters that are seen, and whether it is the type of an alias.
type view struct {
	r      *resolver
	source int
	params map[string]bool
	alias  bool
}

func (v *view) fail(n *located.Node, code api.Errno) { panic(fault{v.source, n, code}) }

// find returns what a name is: a type parameter, or a declaration, if there is one.
func (v *view) find(name string) (param bool, u *unit) {
	if v.params[name] {
		return true, nil
	}
	return false, v.r.visible(v.source, name)
}

// typ resolves a type; top tells that it is a constraint.
func (v *view) typ(n *located.Node, top bool) *inner {
	switch n.Kind {
	case syntax.NamedType:
		return v.named(n, top)
	case syntax.UnionType:
		return v.r.types.of(api.TypeUnion, "", 0, 0, v.list(n.Kids)...)
	case syntax.BothType:
		return v.r.types.of(api.TypeBoth, "", 0, 0, v.list(n.Kids)...)
	case syntax.TupleType:
		return v.r.types.of(api.TypeTuple, "", 0, 0, v.list(n.Kids)...)
	case syntax.ArrowType:
		left := v.left(n.Kids[0])
		return v.r.types.of(api.TypeArrow, "", 0, 0, left, v.typ(n.Kids[1], false))
	}
	v.fail(n, ErrKind)
	return nil
}

func (v *view) list(l []*located.Node) []*inner {
	var out []*inner
	for _, n := range l {
		out = append(out, v.typ(n, false))
	}
	return out
}

// left resolves the left side of an arrow: this, or a type parameter, which aliases may stand for.
func (v *view) left(n *located.Node) *inner {
	if n.Is(syntax.ThisType) {
		return v.r.types.of(api.TypeSelf, "", 0, 0)
	}
	if !n.Is(syntax.NamedType) {
		v.fail(n, ErrKind)
	}
	if param, u := v.find(n.Text); !param && u == nil {
		v.fail(n, api.ErrScope)
	}
	if _, ok := v.param(n); v.alias || !ok {
		v.fail(n, ErrKind)
	}
	return v.named(n, false)
}

// param returns the name of the type parameter that a type is, or that aliases in it stand for, whatever else is wrong
// with them: that is told at their declarations. An argument that is missing is another error; it may be any type.
func (v *view) param(n *located.Node) (string, bool) {
	for n.Is(syntax.NamedType) {
		param, u := v.find(n.Text)
		if param {
			return n.Text, true
		}
		if u == nil || !u.isAlias() {
			break
		}
		i := v.r.standsFor(u)
		if i < 0 {
			break
		}
		if i+2 >= len(n.Kids) {
			return "", true
		}
		n = n.Kids[i+2]
	}
	return "", false
}

// unknown is the kind of the type of an alias that is wrong, which is told at its declaration.
const unknown = 0

func (v *view) named(n *located.Node, top bool) *inner {
	cap, mark := capability(n.Kids[0].Text), mark(n.Kids[1].Text)
	param, u := v.find(n.Text)
	count := 0
	if !param {
		if u == nil {
			v.fail(n, api.ErrScope)
		}
		count = len(u.params)
		if u.isAlias() && (cap != api.CapNone || mark != api.Plain) {
			v.fail(n, ErrKind)
		}
	}
	if cap > api.Tag && !top {
		v.fail(n, ErrKind)
	}
	if len(n.Kids)-2 != count {
		v.fail(n, ErrArity)
	}
	args := v.list(n.Kids[2:])
	switch {
	case param:
		return v.r.types.of(api.TypeParam, n.Text, cap, mark)
	case u.isAlias():
		return v.r.expand(u, args)
	case cap == api.CapNone:
		cap = u.cap
	}
	return v.r.types.of(api.TypeName, u.name, cap, mark, args...)
}

// constraint resolves the type of a type parameter.
func (v *view) constraint(n *located.Node) *inner {
	if n.Is(syntax.Nothing) {
		return v.r.types.of(api.TypeName, "Any", api.CapAny, api.Plain)
	}
	return v.typ(n, true)
}
