package bodies_test

import (
	"maps"
	"slices"
	"testing"

	"hackamore/api"
	"hackamore/bodies"
)

func name(s string, c int) api.Type { return api.Type{Kind: api.TypeName, Name: s, Cap: c} }

func program() []api.Entity {
	create := api.Method{Kind: api.New, Name: "create", Cap: api.Ref, Partial: true}
	get := api.Method{Kind: api.Fun, Name: "get", Cap: api.Box, Partial: true}
	sure := api.Method{Kind: api.New, Name: "sure", Cap: api.Ref}
	return []api.Entity{
		{Kind: api.Class, Name: "C", Methods: []api.Method{create, get, sure}}, {Kind: api.Primitive, Name: "P", Methods: []api.Method{create}},
		{Kind: api.Trait, Name: "T", Methods: []api.Method{create}}, {Kind: api.Actor, Name: "A", Bounds: make([]api.Bound, 1), Methods: []api.Method{create}},
	}
}

// TestMethods: numbers, kinds and receivers.
func TestMethods(t *testing.T) {
	p := program()
	for _, l := range []struct {
		entity, method int
		want           bool
	}{{0, 0, true}, {0, 2, true}, {0, 3, false}, {0, -1, false}, {-1, 0, false}, {4, 0, false}} {
		if bodies.IsMethod(p, l.entity, l.method) != l.want {
			t.Errorf("%v", l)
		}
	}
	for kind, want := range []bool{false, true, true, true, false, false, false} {
		if bodies.IsConcrete(api.Entity{Kind: kind}) != want {
			t.Errorf("kind %d", kind)
		}
	}
	fun, be := api.Method{Kind: api.Fun, Cap: api.Iso}, api.Method{Kind: api.Be, Cap: api.Tag}
	if bodies.Receiver(p[1], fun) != api.Iso || bodies.Receiver(p[1], be) != api.Val || bodies.Receiver(p[0], be) != api.Ref || bodies.Receiver(p[2], be) != api.Ref {
		t.Error("a receiver")
	}
}

// TestReturns: only a function with a result asks for a value.
func TestReturns(t *testing.T) {
	p := program()
	for _, l := range []struct {
		kind        int
		result, got api.Type
		want        bool
	}{
		{api.Fun, name("C", api.Box), name("C", api.Ref), true}, {api.Fun, name("C", api.Ref), name("C", api.Box), false}, {api.Fun, name("C", api.Ref), api.Type{}, true},
		{api.Be, name("C", api.Ref), name("C", api.Box), true}, {api.New, name("C", api.Ref), name("C", api.Box), true}, {api.Fun, api.Type{}, name("C", api.Box), true}, {api.Fun, bodies.None(), name("C", api.Box), true},
		{api.Fun, api.Type{Kind: api.TypeSelf}, api.Type{Kind: api.TypeSelf, Cap: api.Box}, true}, {api.Fun, api.Type{Kind: api.TypeSelf}, api.Type{Kind: api.TypeSelf, Cap: api.Tag}, false}, {api.Fun, api.Type{Kind: 99}, api.Type{}, false},
	} {
		if bodies.Returns(p, p[0], api.Method{Kind: l.kind, Cap: api.Box, Result: l.result}, l.got) != l.want {
			t.Errorf("%v", l)
		}
	}
}

// TestReturnsMark: the receiver of a function is a reference that is still there.
func TestReturnsMark(t *testing.T) {
	m := api.Method{Kind: api.Fun, Cap: api.Iso, Result: api.Type{Kind: api.TypeSelf}}
	for mark, want := range []bool{true, true, false} {
		if bodies.Returns(nil, api.Entity{}, m, api.Type{Kind: api.TypeSelf, Cap: api.Iso, Mark: mark}) != want {
			t.Errorf("mark %d", mark)
		}
	}
}

// TestExprs: what is given up, and what may end with an error.
func TestExprs(t *testing.T) {
	lost := bodies.Consumed(api.Expr{Op: api.OpSeq, Kids: []api.Expr{{Op: api.OpConsume, Text: "a"}, {Op: api.OpLocal, Text: "b"}, {Kids: []api.Expr{{Op: api.OpConsume, Text: "c"}}}}})
	if l := slices.Sorted(maps.Keys(lost)); !slices.Equal(l, []string{"a"}) {
		t.Errorf("given up: %v", l)
	}
	p := program()
	for _, l := range []struct {
		typ, method string
		partial     bool
		e           api.Errno
	}{{"C", "create", true, 0}, {"P", "create", true, 0}, {"C", "sure", false, 0}, {"C", "get", false, api.ErrNone}, {"C", "x", false, api.ErrNone}, {"T", "create", false, api.ErrType}, {"A", "create", false, api.ErrType}, {"X", "create", false, api.ErrType}} {
		x := api.Expr{Op: api.OpNew, Text: l.method, Types: []api.Type{name(l.typ, api.Ref)}}
		if _, m, e := bodies.Constructor(p, x); e != l.e || e == api.OK && m.Name != l.method || bodies.IsPartial(p, x, nil) != l.partial {
			t.Errorf("%v: error %d", l, e)
		}
		call := api.Expr{Op: api.OpCall, Text: l.method}
		if bodies.IsPartial(p, call, []api.Type{name(l.typ, api.Ref)}) != (l.typ != "X" && l.typ != "A" && (l.method == "create" || l.method == "get")) {
			t.Errorf("a call of %v", l)
		}
	}
	if bodies.IsPartial(p, api.Expr{Op: api.OpThis}, nil) {
		t.Error("no call")
	}
	if got, e := bodies.LookedAt(api.Type{Kind: api.TypeName, Name: "C", Cap: api.Iso, Mark: api.Ephemeral}); e != api.OK || got.Mark != api.Aliased {
		t.Errorf("%v, error %d", got, e)
	}
	if _, e := bodies.LookedAt(api.Type{}); e != api.ErrForm {
		t.Errorf("error %d", e)
	}
}
