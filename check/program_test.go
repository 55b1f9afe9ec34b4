package check_test

import (
	"slices"
	"strconv"
	"testing"

	"hackamore/api"
	"hackamore/cells"
	"hackamore/check"
	"hackamore/names"
)

// TestBuiltin: points ahead of the first bracket.
func TestBuiltin(t *testing.T) {
	for name, want := range map[string]bool{"": true, "U8": true, "Array[main.Cell ref]": true, "[.": true, "main.Cell": false, ".": false, "a.Array[U8 val]": false, "x]": true} {
		if check.Builtin(name) != want {
			t.Errorf("%q", name)
		}
	}
}

// small is a program in which all is right.
func small() []api.Entity {
	fun := api.Method{Kind: api.Fun, Name: "f", Cap: api.Box, Params: []api.Param{{Name: "a", Type: ty("m.C ref")}}, Result: ty("U8 val"), Body: fails}
	fun.Partial = true
	asked := fun
	asked.Body = nothing
	be := api.Method{Kind: api.Be, Name: "b", Cap: api.Tag, Params: []api.Param{{Name: "a", Type: ty("m.C iso")}}, Result: ty("None val"), Body: nix}
	create := func(c int) api.Method {
		return api.Method{Kind: api.New, Name: "create", Cap: c, Result: ty("m.C ref^"), Body: nix}
	}
	asks := be
	asks.Body = nothing
	return []api.Entity{
		{Kind: api.Primitive, Name: "None", Cap: api.Val},
		{Kind: api.Primitive, Name: "U8", Cap: api.Val, Methods: []api.Method{{Kind: api.New, Name: "create", Cap: api.Val}, {Kind: api.Fun, Name: "add", Cap: api.Box}}},
		{Kind: api.Interface, Name: "m.I", Cap: api.Ref, Methods: []api.Method{asked}},
		{Kind: api.Trait, Name: "m.T", Cap: api.Ref, Provides: []api.Type{ty("m.I ref")}, Methods: []api.Method{asked}},
		{Kind: api.Class, Name: "m.C", Cap: api.Ref, Provides: []api.Type{ty("m.T box"), ty("m.I ref")}, Fields: []api.Field{{Name: "x", Type: ty("m.C ref")}, {Name: "y", Let: true, Type: ty("(m.C iso | None val)")}}, Methods: []api.Method{create(api.Ref), fun}},
		{Kind: api.Trait, Name: "m.S", Cap: api.Tag, Methods: []api.Method{asks}},
		{Kind: api.Actor, Name: "m.A", Cap: api.Tag, Provides: []api.Type{ty("m.S tag")}, Fields: []api.Field{{Name: "x", Type: ty("(m.T ref & m.I ref)")}}, Methods: []api.Method{create(api.Tag), be, fun}},
		{Kind: api.Primitive, Name: "m.P", Cap: api.Val, Provides: []api.Type{ty("m.I val")}, Methods: []api.Method{create(api.Val), fun}},
	}
}

// programmed checks the error of a program, and where it is.
func programmed(t *testing.T, what string, p []api.Entity, entity, method int, want api.Errno) {
	t.Helper()
	f, e := check.Program(p)
	if want == api.OK {
		entity, method = 0, 0
	}
	if e != want || f.Entity != entity || f.Method != method || len(f.Path) > 0 {
		t.Errorf("%s: error %d at %v, not %d at %d, %d", what, e, f, want, entity, method)
	}
	if c, g, also := check.Check(p); want != api.OK && (also != want || !same(f, g) || len(c.Bodies) > 0) {
		t.Errorf("%s: Check is the error %d at %v", what, also, g)
	}
}

// change is a change of an entity of the small program, and the error that it makes.
type change struct {
	what   string
	entity int
	method int // -1: none
	want   api.Errno
	do     func(e *api.Entity, m *api.Method)
}

func changed(t *testing.T, l []change) {
	t.Helper()
	for _, c := range l {
		p := small()
		e := &p[c.entity]
		m := &api.Method{}
		if c.method >= 0 {
			m = &e.Methods[c.method]
		}
		c.do(e, m)
		programmed(t, c.what, p, c.entity, c.method, c.want)
	}
}

// TestProgramEntities: what entities have ahead of their methods.
func TestProgramEntities(t *testing.T) {
	programmed(t, "small", small(), 0, 0, api.OK)
	programmed(t, "none", nil, 0, 0, api.OK)
	builtin, e := names.Program(map[string]string{"main": cells.Text}, nil)
	if e != api.OK {
		t.Fatal(e)
	}
	programmed(t, "bounds", builtin, slices.IndexFunc(builtin, func(e api.Entity) bool { return len(e.Bounds) > 0 }), -1, api.ErrForm)
	programmed(t, "cells", program(t, cells.Text), 0, 0, api.OK)
	var l []api.Entity
	for i := range 201 {
		l = append(l, api.Entity{Kind: api.Trait, Name: strconv.Itoa(i), Cap: api.Ref})
	}
	programmed(t, "200 entities", l[:200], 0, 0, api.OK)
	l[3].Kind = 0
	programmed(t, "201 entities", l, 0, -1, api.ErrSize)
	many := func(e *api.Entity, n int) {
		e.Provides, e.Fields, e.Methods = slices.Repeat(e.Provides[:1], n), nil, nil
		for i := range n {
			e.Fields = append(e.Fields, api.Field{Name: strconv.Itoa(i), Type: ty("U8 val")})
			e.Methods = append(e.Methods, api.Method{Kind: api.Fun, Name: "f" + strconv.Itoa(i), Cap: api.Box, Body: nix})
		}
		e.Methods[0] = small()[4].Methods[1]
	}
	changed(t, []change{
		{"a name twice", 7, -1, api.ErrTwice, func(e *api.Entity, m *api.Method) { e.Name, e.Kind = "m.C", 0 }},
		{"no kind", 4, -1, api.ErrForm, func(e *api.Entity, m *api.Method) { e.Kind = 0 }},
		{"another kind", 4, -1, api.ErrForm, func(e *api.Entity, m *api.Method) { e.Kind = 6 }},
		{"no capability", 4, -1, api.ErrForm, func(e *api.Entity, m *api.Method) { e.Cap = 0 }},
		{"a set", 4, -1, api.ErrForm, func(e *api.Entity, m *api.Method) { e.Cap = api.CapAny }},
		{"bounds", 4, -1, api.ErrForm, func(e *api.Entity, m *api.Method) { e.Bounds = []api.Bound{{Name: "A", Type: ty("m.I ref")}} }},
		{"64 of all", 4, -1, api.OK, func(e *api.Entity, m *api.Method) { many(e, 64) }},
		{"65 provided", 4, -1, api.ErrSize, func(e *api.Entity, m *api.Method) { e.Provides = slices.Repeat(e.Provides[:1], 65) }},
		{"65 fields", 4, -1, api.ErrSize, func(e *api.Entity, m *api.Method) { e.Fields = slices.Repeat(e.Fields[:1], 65) }},
		{"65 methods", 4, -1, api.ErrSize, func(e *api.Entity, m *api.Method) { e.Methods = slices.Repeat(e.Methods[:1], 65) }},
		{"fields of a trait", 3, -1, ErrEntity, func(e *api.Entity, m *api.Method) { e.Fields = []api.Field{{}} }},
		{"fields of a primitive", 7, -1, ErrEntity, func(e *api.Entity, m *api.Method) { e.Fields = []api.Field{{}} }},
		{"fields of an interface", 2, -1, ErrEntity, func(e *api.Entity, m *api.Method) { e.Fields = []api.Field{{}} }},
		{"a field twice", 4, -1, api.ErrTwice, func(e *api.Entity, m *api.Method) { e.Fields[1] = api.Field{Name: "x"} }},
	})
	for _, s := range []string{"$A", "this", "this ref", "(this ref -> m.C ref)", "m.C[(this ref -> m.C ref)] ref", "(m.T ref & m.I box)", "(None val | (m.T iso & m.I iso^))", "m.C[(m.T ref & m.I val)] ref"} {
		want := api.ErrForm
		if s == "this ref" {
			want = api.OK
		}
		changed(t, []change{{"field " + s, 4, -1, want, func(e *api.Entity, m *api.Method) { e.Fields[0].Type = ty(s) }}})
	}
	changed(t, []change{{"a field without a type", 4, -1, api.ErrForm, func(e *api.Entity, m *api.Method) { e.Fields[0].Type = api.Type{} }}})
}

const ErrEntity = check.ErrEntity

// TestProgramProvides: what may be provided.
func TestProgramProvides(t *testing.T) {
	provides := func(what string, entity int, want api.Errno, l ...api.Type) change {
		return change{what, entity, -1, want, func(e *api.Entity, m *api.Method) { e.Provides = l }}
	}
	bad := ty("m.T ref")
	bad.Cap = 0
	odd := ty("m.T ref")
	odd.Kind = api.TypeUnion
	changed(t, []change{
		provides("nothing", 4, api.OK),
		provides("a class", 4, ErrEntity, ty("m.C ref")),
		provides("an actor", 4, ErrEntity, ty("m.A tag")),
		provides("a primitive", 4, ErrEntity, ty("m.P val")),
		provides("what is not there", 4, ErrEntity, ty("m.X val")),
		provides("arguments", 4, ErrEntity, ty("m.T[U8 val] ref")),
		provides("no capability", 4, ErrEntity, bad),
		provides("no name", 4, ErrEntity, odd),
		provides("a union", 4, ErrEntity, ty("(m.T ref | m.I ref)")),
		provides("a parameter", 4, ErrEntity, ty("$A")),
		provides("the receiver", 4, ErrEntity, ty("this ref")),
		provides("the second one", 4, ErrEntity, ty("m.T ref"), ty("m.P val")),
		provides("a trait by an interface", 2, ErrEntity, ty("m.S ref")),
		provides("itself", 2, ErrEntity, ty("m.I ref")),
		provides("itself, in a circle", 2, ErrEntity, ty("m.T ref")),
		provides("any capability and mark", 7, api.OK, ty("m.I iso^"), ty("m.T tag")),
	})
	p := small()
	p = append(p, api.Entity{Kind: api.Interface, Name: "m.J", Cap: api.Ref, Provides: []api.Type{ty("m.K ref")}}, api.Entity{Kind: api.Interface, Name: "m.K", Cap: api.Ref, Provides: []api.Type{ty("m.J ref")}})
	programmed(t, "a circle", p, 8, -1, ErrEntity)
	p[9].Provides = []api.Type{ty("m.I ref")}
	programmed(t, "what is asked for far above", p, 0, 0, api.OK)
	p[9].Provides = nil
	programmed(t, "interfaces provide interfaces", p, 0, 0, api.OK)
}

// TestProgramMethods: the methods of entities by themselves.
func TestProgramMethods(t *testing.T) {
	cases := []change{
		{"a name twice", 4, 1, api.ErrTwice, func(e *api.Entity, m *api.Method) { m.Name, m.Kind = "create", 0 }},
		{"no kind", 4, 1, api.ErrForm, func(e *api.Entity, m *api.Method) { m.Kind = 0 }},
		{"another kind", 4, 1, api.ErrForm, func(e *api.Entity, m *api.Method) { m.Kind = 4 }},
		{"no capability", 4, 1, api.ErrForm, func(e *api.Entity, m *api.Method) { m.Cap = 0 }},
		{"a set", 4, 1, api.ErrForm, func(e *api.Entity, m *api.Method) { m.Cap = api.CapRead }},
		{"bounds", 4, 1, api.ErrForm, func(e *api.Entity, m *api.Method) { m.Bounds = make([]api.Bound, 1) }},
		{"65 parameters", 4, 0, api.ErrForm, func(e *api.Entity, m *api.Method) { m.Params = make([]api.Param, 65) }},
		{"64 parameters", 4, 0, api.OK, func(e *api.Entity, m *api.Method) {
			for i := range 64 {
				m.Params = append(m.Params, api.Param{Name: strconv.Itoa(i), Type: ty("U8 val")})
			}
		}},
		{"a parameter twice", 4, 0, api.ErrTwice, func(e *api.Entity, m *api.Method) { m.Params = make([]api.Param, 2) }},
		{"a parameter without a type", 4, 0, api.ErrForm, func(e *api.Entity, m *api.Method) { m.Params = make([]api.Param, 1) }},
		{"no result", 4, 0, api.OK, func(e *api.Entity, m *api.Method) { m.Result = api.Type{} }},
		{"a result that is nothing", 4, 0, api.ErrForm, func(e *api.Entity, m *api.Method) { m.Result = api.Type{Name: "x"} }},
		{"a constructor of a trait", 5, 0, ErrEntity, func(e *api.Entity, m *api.Method) { m.Kind = api.New }},
		{"a constructor of an interface", 2, 0, ErrEntity, func(e *api.Entity, m *api.Method) { m.Kind = api.New }},
		{"a behaviour of a class", 4, 0, ErrEntity, func(e *api.Entity, m *api.Method) { m.Kind, m.Result = api.Be, api.Type{} }},
		{"a behaviour of a primitive", 7, 0, ErrEntity, func(e *api.Entity, m *api.Method) { m.Kind, m.Result = api.Be, api.Type{} }},
		{"a behaviour of an interface", 2, 0, ErrEntity, func(e *api.Entity, m *api.Method) { m.Kind = api.Be }},
		{"a constructor of an actor", 6, 0, ErrEntity, func(e *api.Entity, m *api.Method) { m.Cap = api.Ref }},
		{"a constructor of a primitive", 7, 0, ErrEntity, func(e *api.Entity, m *api.Method) { m.Cap = api.Box }},
		{"a result of a behaviour", 6, 1, ErrEntity, func(e *api.Entity, m *api.Method) { m.Result = ty("None ref") }},
		{"a marked result of a behaviour", 6, 1, ErrEntity, func(e *api.Entity, m *api.Method) { m.Result = ty("None val^") }},
		{"no result of a behaviour", 6, 1, api.OK, func(e *api.Entity, m *api.Method) { m.Result, e.Provides = api.Type{}, nil }},
		{"a partial behaviour", 6, 1, ErrEntity, func(e *api.Entity, m *api.Method) { m.Partial = true }},
		{"a partial constructor of an actor", 6, 0, ErrEntity, func(e *api.Entity, m *api.Method) { m.Partial = true }},
		{"a partial constructor of a class", 4, 0, api.OK, func(e *api.Entity, m *api.Method) { m.Partial = true }},
		{"a partial constructor of a primitive", 7, 0, api.OK, func(e *api.Entity, m *api.Method) { m.Partial = true }},
		{"no body in a class", 4, 1, check.ErrPlace, func(e *api.Entity, m *api.Method) { m.Body = nothing }},
		{"no body in an actor", 6, 1, check.ErrPlace, func(e *api.Entity, m *api.Method) { m.Body = api.Expr{Text: "x"} }},
		{"no body in a primitive", 7, 0, check.ErrPlace, func(e *api.Entity, m *api.Method) { m.Body = nothing }},
		{"a body in a builtin primitive", 1, 1, api.OK, func(e *api.Entity, m *api.Method) { m.Body = nix }},
		{"a body in a trait", 5, 0, api.OK, func(e *api.Entity, m *api.Method) { m.Body = nix }},
		{"a body in an interface", 2, 0, check.ErrPlace, func(e *api.Entity, m *api.Method) { m.Body = fails }},
		{"none in an interface", 2, 0, api.OK, func(e *api.Entity, m *api.Method) { m.Body = api.Expr{Text: "x"} }},
	}
	changed(t, cases)
	types := map[string]bool{"$A": false, "m.C[$A] ref": false, "(this -> m.C iso)": true, "this": true, "(this val -> m.C box)": true, "(this tag -> m.C ref)": false,
		"(m.T ref & m.I box)": false, "((this -> m.C ref) & m.C ref)": true, "((this -> m.C box) & m.C ref)": false, "(m.C iso! | None val)": true}
	for s, right := range types {
		want := api.OK
		if !right {
			want = api.ErrForm
		}
		changed(t, []change{
			{"the parameter " + s, 4, 0, want, func(e *api.Entity, m *api.Method) { m.Params = []api.Param{{Name: "p", Type: ty(s)}} }},
			{"the result " + s, 4, 0, want, func(e *api.Entity, m *api.Method) { m.Result = ty(s) }},
		})
	}
	changed(t, []change{{"an arrow through iso", 4, 1, api.OK, func(e *api.Entity, m *api.Method) {
		m.Cap, e.Provides, m.Result = api.Iso, nil, ty("(this -> m.C ref)")
	}}})
	changed(t, []change{{"an arrow through tag", 4, 1, api.ErrForm, func(e *api.Entity, m *api.Method) { m.Cap, m.Result = api.Tag, ty("(this -> m.C ref)") }}})
}

// TestProgramSends: what is not sendable is no argument of what starts elsewhere.
func TestProgramSends(t *testing.T) {
	for s, sendable := range map[string]bool{"m.C iso": true, "m.C iso!": true, "m.C val": true, "m.C tag": true, "m.C trn": false, "m.C ref": false, "m.C box": false, "(m.C iso | m.C val)": true, "(m.C iso, m.C box)": false, "(this iso -> m.C val)": false, "this": false} {
		for _, k := range []struct{ entity, method, cap int }{{6, 0, api.Tag}, {6, 1, api.Tag}, {5, 0, api.Tag}, {4, 0, api.Iso}, {4, 0, api.Trn}, {4, 0, api.Val}, {4, 0, api.Ref}, {4, 0, api.Box}, {4, 0, api.Tag}, {7, 0, api.Val}, {6, 2, api.Tag}} {
			p := small()
			m := &p[k.entity].Methods[k.method]
			m.Cap = k.cap
			m.Params = []api.Param{{Name: "a", Type: ty("m.C val")}, {Name: "b", Type: ty(s)}}
			strict := k.entity != 7 && k.method != 2 && !(k.entity == 4 && k.cap > api.Trn && k.cap != api.Val)
			f, e := check.Program(p)
			switch {
			case strict && !sendable && (e != check.ErrSend || f.Entity != k.entity || f.Method != k.method):
				t.Errorf("%s in %v: error %d at %v", s, k, e, f)
			case (!strict || sendable) && e == check.ErrSend:
				t.Errorf("%s in %v: error %d at %v", s, k, e, f)
			}
		}
	}
}

// TestProgramPromises: entities have the methods of what they provide.
func TestProgramPromises(t *testing.T) {
	changed(t, []change{
		{"no method", 4, -1, ErrEntity, func(e *api.Entity, m *api.Method) { e.Methods = e.Methods[:1] }},
		{"no method of a trait", 3, -1, api.OK, func(e *api.Entity, m *api.Method) { e.Methods = nil }},
		{"another result", 4, -1, ErrEntity, func(e *api.Entity, m *api.Method) { e.Methods[1].Result = ty("None val") }},
		{"another receiver", 4, -1, ErrEntity, func(e *api.Entity, m *api.Method) { e.Methods[1].Cap = api.Ref }},
		{"no error", 4, -1, api.OK, func(e *api.Entity, m *api.Method) { e.Methods[1].Partial, e.Methods[1].Body = false, nix }},
		{"another kind", 6, -1, ErrEntity, func(e *api.Entity, m *api.Method) { e.Methods[1].Kind = api.Fun }},
		{"a trait", 3, -1, ErrEntity, func(e *api.Entity, m *api.Method) { e.Methods[0].Result = ty("None val") }},
		{"an interface", 2, -1, api.OK, func(e *api.Entity, m *api.Method) { e.Methods = nil }},
	})
	p := small()
	p[4].Provides = []api.Type{ty("m.I ref"), ty("m.T ref")}
	p[4].Methods = p[4].Methods[:1]
	programmed(t, "only without a body", p, 4, -1, ErrEntity)
	p[3].Methods[0].Body = fails
	programmed(t, "the first one found has a body", p, 4, -1, ErrEntity)
	p[4].Provides = []api.Type{ty("m.T ref"), ty("m.I ref")}
	if f, e := check.Program(p); e != api.OK {
		t.Errorf("a default: error %d at %v", e, f)
	}
	p = small()
	p[4].Provides = append(p[4].Provides, ty("m.S tag"))
	programmed(t, "a behaviour asked of a class", p, 4, -1, ErrEntity)
	p[5].Methods[0].Body = nix
	programmed(t, "a behaviour with a body asked of a class", p, 4, -1, ErrEntity)
	p = small()
	p[7].Provides = append(p[7].Provides, ty("m.S tag"))
	programmed(t, "a behaviour asked of a primitive", p, 7, -1, ErrEntity)
	p = small()
	p[3].Provides = append(p[3].Provides, ty("m.S tag"))
	p[4].Provides = nil
	programmed(t, "a behaviour asked of a trait", p, 0, 0, api.OK)
	p[2].Methods[0].Kind = 0
	p[4].Provides = []api.Type{ty("m.P val")}
	programmed(t, "entities ahead of promises", p, 2, 0, api.ErrForm)
	p = small()
	p[1].Provides = []api.Type{ty("m.K val")}
	kept := api.Method{Kind: api.Fun, Name: "add", Cap: api.Box}
	p = append(p, api.Entity{Kind: api.Interface, Name: "m.K", Cap: api.Ref, Methods: []api.Method{kept}})
	programmed(t, "a builtin one without a body", p, 0, 0, api.OK)
	p[8].Methods[0].Cap = api.Tag
	programmed(t, "a builtin one with another receiver", p, 1, -1, ErrEntity)
}
