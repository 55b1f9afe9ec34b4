package names

import (
	"hackamore/api"
	"hackamore/located"
	"hackamore/syntax"
)

// entity resolves the declaration of an entity.
func (r *resolver) entity(u *unit) api.Entity {
	v := r.view(u)
	n := u.at
	e := api.Entity{Kind: u.kind, Name: u.name, Cap: u.cap, Bounds: v.bounds(n.Kids[2])}
	e.Provides = v.provides(n.Kids[3])
	for _, m := range n.Kids[4:] {
		if m.Is(syntax.Field) {
			t := v.typ(m.Kids[1], false)
			e.Fields = append(e.Fields, api.Field{Name: m.Text, Let: m.Kids[0].Text == "let", Type: t.whole()})
		} else {
			e.Methods = append(e.Methods, v.method(m, u))
		}
	}
	return e
}

func (v *view) bounds(n *located.Node) []api.Bound {
	var l []api.Bound
	for _, b := range n.Kids {
		l = append(l, api.Bound{Name: b.Text, Type: v.constraint(b.Kids[0]).whole()})
	}
	return l
}

// provides resolves the types that an entity provides: those of an intersection one by one.
func (v *view) provides(n *located.Node) []api.Type {
	if n.Is(syntax.Nothing) {
		return nil
	}
	t := v.typ(n, false).whole()
	if t.Kind == api.TypeBoth {
		return t.Args
	}
	return []api.Type{t}
}

// method resolves a method of an entity.
func (v *view) method(n *located.Node, u *unit) api.Method {
	inside := &view{v.r, v.source, map[string]bool{}, false}
	for p := range v.params {
		inside.params[p] = true
	}
	for _, b := range n.Kids[2].Kids {
		inside.params[b.Text] = true
	}
	m := api.Method{Name: n.Text, Kind: methodKind(n.Kids[0].Text), Partial: n.Kids[5].Text == "?"}
	m.Cap = methodCap(m.Kind, capability(n.Kids[1].Text), u.kind)
	m.Bounds = inside.bounds(n.Kids[2])
	b := &body{view: inside, counts: map[string]int{}, scope: &scope{names: map[string]string{}}}
	for _, p := range n.Kids[3].Kids {
		t := inside.typ(p.Kids[0], false)
		m.Params = append(m.Params, api.Param{Name: b.declare(b.unique(p.Text), p.Text), Type: t.whole()})
	}
	m.Result = inside.result(n.Kids[4], m, u)
	if !n.Kids[6].Is(syntax.Nothing) {
		m.Body = b.within(n.Kids[6])
	}
	return m
}

// result resolves the result of a method; a missing one is None, or the entity of a constructor.
func (v *view) result(n *located.Node, m api.Method, u *unit) api.Type {
	if !n.Is(syntax.Nothing) {
		return v.typ(n, false).whole()
	}
	if m.Kind != api.New {
		return named("None", api.Val)
	}
	t := named(u.name, m.Cap)
	t.Mark = api.Ephemeral
	for _, p := range u.params {
		t.Args = append(t.Args, api.Type{Kind: api.TypeParam, Name: p})
	}
	return t
}

func methodKind(word string) int {
	switch word {
	case "new":
		return api.New
	case "fun":
		return api.Fun
	}
	return api.Be
}

// methodCap returns the capability of a method of an entity of a kind.
func methodCap(kind, written, entity int) int {
	switch {
	case kind == api.Be:
		return api.Tag
	case written != api.CapNone:
		return written
	case kind == api.Fun:
		return api.Box
	case entity == api.Actor:
		return api.Tag
	case entity == api.Primitive:
		return api.Val
	}
	return api.Ref
}
