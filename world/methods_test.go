package world_test

import (
	"slices"
	"testing"

	"hackamore/api"
	"hackamore/num"
	"hackamore/samples"
	"hackamore/world"
)

// called is what comes of a call.
type called struct {
	v      api.Value
	raised bool
	e      api.Errno
}

func call(w *world.World, receiver api.Value, name string, args ...api.Value) called {
	v, raised, e := w.Call(1, receiver, name, args)
	return called{v, raised, e}
}

// gives checks what a call returns; text is the text of a new String, if it is not empty.
func gives(t *testing.T, w *world.World, want called, text string, receiver api.Value, name string, args ...api.Value) {
	t.Helper()
	before := w.State()
	got := call(w, receiver, name, args...)
	after := w.State()
	if text != "" {
		new := api.Cell{Type: "String", Owner: 1, Bytes: text}
		want.v = object(len(before.Cells))
		before.Cells = append(before.Cells, new)
	}
	if !alike(got, want) {
		t.Errorf("%v.%s of %v: %v, not %v", receiver, name, args, got, want)
	}
	if (text != "" || want.raised || want.e != api.OK) && !alike(before, after) {
		t.Errorf("%v.%s of %v: something else has changed", receiver, name, args)
	}
	if e := world.Check(after); e != api.OK {
		t.Errorf("%v.%s of %v: the state is not right", receiver, name, args)
	}
}

func value(v api.Value) called  { return called{v: v} }
func failed(e api.Errno) called { return called{e: e} }
func is(b bool) called          { return called{v: truth(b)} }
func count(n string) called     { return called{v: usize(n)} }
func byteOf(n string) called    { return called{v: number("U8", n)} }
func fresh() called             { return called{} }
func raises() called            { return called{raised: true} }

// TestStringMethods: the table's rows for Strings.
func TestStringMethods(t *testing.T) {
	w := begun(t, "abc", "", "a\xffb", "abd", long(20000))
	abc, none, odd, abd, large := object(0), object(1), object(2), object(3), object(4)
	gives(t, w, count("3"), "", abc, "size")
	gives(t, w, count("0"), "", none, "size")
	gives(t, w, count("20000"), "", large, "size")
	gives(t, w, byteOf("97"), "", abc, "apply", usize("0"))
	gives(t, w, byteOf("255"), "", odd, "apply", usize("1"))
	gives(t, w, raises(), "", abc, "apply", usize("3"))
	gives(t, w, raises(), "", abc, "apply", usize("18446744073709551615"))
	gives(t, w, raises(), "", none, "apply", usize("0"))
	gives(t, w, fresh(), "abca\xffb", abc, "add", odd)
	gives(t, w, fresh(), "abc", none, "add", abc)
	gives(t, w, failed(api.ErrLarge), "", large, "add", abc)
	gives(t, w, fresh(), long(20000), none, "add", large)
	texts := []struct {
		v api.Value
		s string
	}{{abc, "abc"}, {none, ""}, {odd, "a\xffb"}, {abd, "abd"}}
	for _, a := range texts {
		for _, b := range texts {
			gives(t, w, is(a.s == b.s), "", a.v, "eq", b.v)
			gives(t, w, is(a.s != b.s), "", a.v, "ne", b.v)
			gives(t, w, is(a.s < b.s), "", a.v, "lt", b.v)
			gives(t, w, is(a.s <= b.s), "", a.v, "le", b.v)
			gives(t, w, is(a.s > b.s), "", a.v, "gt", b.v)
			gives(t, w, is(a.s >= b.s), "", a.v, "ge", b.v)
		}
	}
	gives(t, w, fresh(), "bc", abc, "substring", usize("1"), usize("3"))
	gives(t, w, fresh(), "ab", abc, "substring", usize("0"), usize("2"))
	gives(t, w, fresh(), "c", abc, "substring", usize("2"), usize("18446744073709551615"))
	for _, at := range [][2]string{{"2", "2"}, {"3", "1"}, {"7", "9"}, {"18446744073709551615", "18446744073709551615"}} {
		n := len(w.State().Cells)
		if got := call(w, abc, "substring", usize(at[0]), usize(at[1])); !alike(got, value(object(n))) || w.State().Cells[n].Bytes != "" {
			t.Errorf("substring of %v: %v", at, got)
		}
	}
	gives(t, w, value(abc), "", abc, "string")
}

// TestArrayMethods: the table's rows for Arrays.
func TestArrayMethods(t *testing.T) {
	w := begun(t)
	l := arrayOf(t, w, "Array[x]")
	pair := tuple(one, truth(true))
	gives(t, w, count("0"), "", l, "size")
	gives(t, w, raises(), "", l, "apply", usize("0"))
	gives(t, w, raises(), "", l, "update", usize("0"), one)
	gives(t, w, raises(), "", l, "pop")
	gives(t, w, value(none), "", l, "push", pair)
	gives(t, w, value(none), "", l, "push", l)
	gives(t, w, count("2"), "", l, "size")
	gives(t, w, value(pair), "", l, "apply", usize("0"))
	gives(t, w, value(l), "", l, "apply", usize("1"))
	gives(t, w, raises(), "", l, "apply", usize("2"))
	gives(t, w, raises(), "", l, "update", usize("18446744073709551615"), one)
	gives(t, w, value(pair), "", l, "update", usize("0"), one)
	gives(t, w, value(one), "", l, "apply", usize("0"))
	gives(t, w, value(l), "", l, "pop")
	gives(t, w, value(one), "", l, "pop")
	gives(t, w, raises(), "", l, "pop")
	w = changed(t, w, func(s *world.State) { s.Cells[l.Lo].Fields = slices.Repeat([]api.Value{one}, 9999) })
	gives(t, w, value(none), "", l, "push", one)
	gives(t, w, failed(api.ErrFull), "", l, "push", one)
	kids := tuple(one, tuple(one, one))
	call(w, l, "update", usize("0"), kids)
	kids.Kids[1].Kids[0] = none
	got := call(w, l, "apply", usize("0"))
	got.v.Kids[1].Kids[1] = none
	gives(t, w, value(tuple(one, tuple(one, one))), "", l, "apply", usize("0"))
}

// TestOtherMethods: of numbers, Bools, None and the actor 0.
func TestOtherMethods(t *testing.T) {
	w := begun(t, "hi", "\xff")
	gives(t, w, fresh(), "None", none, "string")
	gives(t, w, fresh(), "-0.0", number("F64", "-0.0"), "string")
	gives(t, w, fresh(), "-128", number("I8", "-128"), "string")
	gives(t, w, fresh(), "true", truth(true), "string")
	gives(t, w, fresh(), "false", truth(false), "string")
	gives(t, w, failed(api.ErrSize), "", one, "string", one)
	gives(t, w, failed(api.ErrSize), "", truth(true), "string", one)
	for i, s := range []string{"hi", "\xff", "hi"} {
		gives(t, w, value(none), "", actor(0), "print", object(i%2))
		if l := w.State().Output; len(l) != i+1 || l[i] != s {
			t.Errorf("Output: %q", l)
		}
	}
	m := samples.New(3)
	types := append(num.Types(), "Bool")
	for range 20000 {
		typ := types[m.Below(len(types))]
		sigs, _ := num.Methods(typ)
		name := sigs[m.Below(len(sigs))].Name
		if name == "string" || m.Below(20) == 0 {
			name = m.One("x", "", "size")
		}
		var args []api.Value
		for range m.Below(3) + m.Below(2)*m.Below(2) {
			args = append(args, anyNumber(m, typ))
		}
		receiver := anyNumber(m, typ)
		v, raised, e := num.Call(w.Type(receiver), name, append([]api.Value{receiver}, args...))
		if got := call(w, receiver, name, args...); !alike(got, called{v, raised, e}) {
			t.Fatalf("%v.%s of %v: %v", receiver, name, args, got)
		}
	}
}

// anyNumber returns a number of a type, sometimes of another one.
func anyNumber(m *samples.Maker, typ string) api.Value {
	if m.Below(10) == 0 {
		return truth(m.Below(2) == 0)
	}
	if typ == "Bool" {
		return truth(m.Below(2) == 0)
	}
	return number(typ, m.One("0", "1", "2", "7", "100"))
}

// TestCallErrors: in their order, and that nothing has changed then.
func TestCallErrors(t *testing.T) {
	w := changed(t, begun(t, "a"), func(s *world.State) { s.Actors = append(s.Actors, world.Actor{}, world.Actor{Type: "Out"}) })
	s, l := object(0), object(1)
	cell := made(t, w, 1, "main.Cell")
	wrong := wrongValues()[9]
	for _, n := range []int{-1, 2, 4, 1 << 40} {
		if v, raised, e := w.Call(n, wrong, "x", nil); e != api.ErrNone || raised || !alike(v, api.Value{}) {
			t.Errorf("Call by the actor %d: error %d", n, e)
		}
	}
	for _, v := range append(wrongValues(), api.Value{}) {
		gives(t, w, failed(world.ErrBroken), "", v, "x")
		gives(t, w, failed(world.ErrBroken), "", cell, "x", one, v)
		gives(t, w, failed(world.ErrBroken), "", one, "add", v)
	}
	for _, v := range []api.Value{cell, tuple(one, one), unit("main.Red"), unit("U32"), actor(3), actor(1), object(2)} {
		gives(t, w, failed(world.ErrMethod), "", v, "string")
		gives(t, w, failed(world.ErrMethod), "", v, "print", s)
		gives(t, w, failed(world.ErrMethod), "", v, "size")
	}
	for _, v := range []api.Value{s, l, none, actor(0)} {
		gives(t, w, failed(world.ErrMethod), "", v, "x", s)
		gives(t, w, failed(world.ErrMethod), "", v, "")
	}
	gives(t, w, failed(world.ErrMethod), "", l, "string")
	gives(t, w, failed(world.ErrMethod), "", none, "eq", none)
	gives(t, w, failed(api.ErrNone), "", one, "x", one)
	for _, c := range []struct {
		v    api.Value
		name string
		args []api.Value
	}{
		{s, "size", []api.Value{one}}, {s, "apply", nil}, {s, "apply", []api.Value{one, one}}, {s, "add", nil}, {s, "eq", []api.Value{s, s}}, {s, "substring", []api.Value{one}},
		{s, "string", []api.Value{s}}, {l, "size", []api.Value{one}}, {l, "apply", nil}, {l, "update", []api.Value{one}}, {l, "push", nil}, {l, "pop", []api.Value{one}},
		{none, "string", []api.Value{one}}, {actor(0), "print", nil}, {actor(0), "print", []api.Value{s, s}},
	} {
		gives(t, w, failed(api.ErrSize), "", c.v, c.name, c.args...)
	}
	for _, v := range []api.Value{one, number("U64", "0"), number("ISize", "0"), s, truth(true), none, unit("USize")} {
		gives(t, w, failed(api.ErrType), "", s, "apply", v)
		gives(t, w, failed(api.ErrType), "", l, "apply", v)
		gives(t, w, failed(api.ErrType), "", l, "update", v, one)
		gives(t, w, failed(api.ErrType), "", s, "substring", v, usize("1"))
		gives(t, w, failed(api.ErrType), "", s, "substring", usize("1"), v)
	}
	for _, v := range []api.Value{one, l, cell, none, unit("main.Red"), actor(0), tuple(s, s)} {
		for _, name := range []string{"add", "eq", "ne", "lt", "le", "gt", "ge"} {
			gives(t, w, failed(api.ErrType), "", s, name, v)
		}
		gives(t, w, failed(api.ErrType), "", actor(0), "print", v)
	}
	full := changed(t, w, func(s *world.State) {
		s.Cells, s.Output = append(s.Cells, make([]api.Cell, 20000-len(s.Cells))...), make([]string, 100000)
	})
	gives(t, full, failed(api.ErrFull), "", s, "add", s)
	gives(t, full, failed(api.ErrFull), "", one, "string")
	gives(t, full, failed(api.ErrFull), "", none, "string")
	gives(t, full, failed(api.ErrFull), "", actor(0), "print", s)
	gives(t, full, value(s), "", s, "string")
}

// TestOddNames: what is asked of values is not asked of names that others have, too.
func TestOddNames(t *testing.T) {
	p := append(program(t), api.Entity{Kind: api.Class, Name: "F16"}, api.Entity{Kind: api.Primitive, Name: "Array[x]"})
	entity(p, "String").Kind = api.Primitive
	entity(p, "USize").Kind = api.Class
	w, e := world.New(p, []string{"a"})
	if e != api.OK {
		t.Fatalf("New: error %d", e)
	}
	gives(t, w, failed(world.ErrMethod), "", unit("String"), "size")
	gives(t, w, failed(world.ErrMethod), "", unit("Array[x]"), "size")
	gives(t, w, failed(api.ErrType), "", object(0), "add", unit("String"))
	gives(t, w, failed(api.ErrType), "", object(0), "apply", made(t, w, 1, "USize"))
}
