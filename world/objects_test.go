package world_test

import (
	"slices"
	"testing"

	"hackamore/api"
	"hackamore/num"
	"hackamore/subtype"
	"hackamore/world"
)

// TestMaking: objects of all kinds, and the errors in their order.
func TestMaking(t *testing.T) {
	w := changed(t, begun(t), func(s *world.State) { s.Actors = append(s.Actors, world.Actor{}) })
	cell, text := made(t, w, 0, "main.Cell"), textOf(t, w, "hi")
	list := arrayOf(t, w, "Array[x]", tuple(one, none), cell)
	s := w.State()
	for v, want := range map[uint64]api.Cell{
		cell.Lo: {Type: "main.Cell", Owner: 0, Fields: make([]api.Value, 10)}, text.Lo: {Type: "String", Owner: 1, Bytes: "hi"},
		list.Lo: {Type: "Array[x]", Owner: 1, Fields: []api.Value{tuple(one, none), cell}},
	} {
		if !alike(s.Cells[v], want) {
			t.Errorf("object %d: %v, not %v", v, s.Cells[v], want)
		}
	}
	if !alike([]api.Value{cell, text, list}, []api.Value{object(2), object(3), object(4)}) {
		t.Error("objects have other numbers")
	}
	made(t, w, 1, "Array[String val]")
	made(t, w, 1, "String")
	if e := world.Check(w.State()); e != api.OK {
		t.Errorf("objects of the classes Array and String: error %d", e)
	}
	wrong := []api.Value{wrongValues()[9]}
	many := slices.Repeat([]api.Value{one}, 10001)
	unchanged(t, w, func() {
		for i, c := range []struct {
			v         api.Value
			got, want api.Errno
		}{
			tried(api.ErrNone)(w.Make(-1, "x")), tried(api.ErrNone)(w.Make(2, "main.Cell")), tried(api.ErrNone)(w.Make(3, "main.Cell")), tried(world.ErrMethod)(w.Make(1, "x")),
			tried(world.ErrMethod)(w.Make(1, "main.Main")), tried(world.ErrMethod)(w.Make(1, "None")), tried(world.ErrMethod)(w.Make(1, "")), tried(world.ErrMethod)(w.Make(1, "Array[x]")),
			tried(api.ErrNone)(w.Text(2, long(20001))), tried(api.ErrNone)(w.Text(1<<40, "")), tried(api.ErrLarge)(w.Text(1, long(20001))),
			tried(api.ErrNone)(w.Array(2, "x", nil)), tried(world.ErrMethod)(w.Array(1, "Array", many)), tried(world.ErrMethod)(w.Array(1, "Array[", many)),
			tried(world.ErrMethod)(w.Array(1, "array[x]", nil)), tried(world.ErrMethod)(w.Array(1, "String", nil)), tried(api.ErrFull)(w.Array(1, "Array[x]", append(many, wrong...))),
			tried(world.ErrBroken)(w.Array(1, "Array[x]", wrong)), tried(world.ErrBroken)(w.Array(1, "Array[x]", []api.Value{{}})),
		} {
			if c.got != c.want || !alike(c.v, api.Value{}) {
				t.Errorf("%d: %v, error %d, not %d", i, c.v, c.got, c.want)
			}
		}
	})
	arrayOf(t, w, "Array[]", many[1:]...)
	textOf(t, w, long(20000))
	full := changed(t, begun(t), func(s *world.State) { s.Cells = append(s.Cells, make([]api.Cell, 19997)...) })
	made(t, full, 1, "main.Cell")
	for i, c := range []struct {
		v         api.Value
		got, want api.Errno
	}{
		tried(api.ErrFull)(full.Make(1, "main.Cell")), tried(api.ErrFull)(full.Text(1, "")), tried(api.ErrFull)(full.Array(1, "Array[x]", nil)),
		tried(api.ErrLarge)(full.Text(1, long(20001))), tried(world.ErrBroken)(full.Array(1, "Array[x]", wrong)), tried(world.ErrMethod)(full.Make(1, "x")),
	} {
		if c.got != c.want || !alike(c.v, api.Value{}) {
			t.Errorf("full, %d: error %d, not %d", i, c.got, c.want)
		}
	}
}

// tried puts what is wanted beside what came.
func tried(want api.Errno) func(api.Value, api.Errno) struct {
	v         api.Value
	got, want api.Errno
} {
	return func(v api.Value, e api.Errno) struct {
		v         api.Value
		got, want api.Errno
	} {
		return struct {
			v         api.Value
			got, want api.Errno
		}{v, e, want}
	}
}

// TestFields: Get and Set, of objects and actors.
func TestFields(t *testing.T) {
	w := busy(t)
	a := made(t, w, 1, "main.Cell")
	for _, v := range []api.Value{a, actor(2)} {
		if got, e := w.Get(v, "c"); v.Kind == api.ValActor && (e != world.ErrUnset || !alike(got, api.Value{})) {
			t.Errorf("a field without a value: %v, error %d", got, e)
		}
		name := map[int]string{api.ValObject: "r", api.ValActor: "k"}[v.Kind]
		had := api.Value{}
		for _, x := range []api.Value{one, tuple(one, a), object(0)} {
			if old, e := w.Set(v, name, x); e != api.OK || !alike(old, had) {
				t.Errorf("Set: %v, error %d, not %v", old, e, had)
			}
			if got, e := w.Get(v, name); e != api.OK || !alike(got, x) {
				t.Errorf("Get: %v, error %d, not %v", got, e, x)
			}
			had = x
		}
	}
	pair := tuple(one, tuple(one, one))
	set(t, w, a, "p", pair)
	pair.Kids[1].Kids[0] = none
	got, _ := w.Get(a, "p")
	got.Kids[1].Kids[1] = none
	if again, _ := w.Get(a, "p"); !alike(again, tuple(one, tuple(one, one))) {
		t.Errorf("a field shares its memory: %v", again)
	}
}

// TestFieldErrors: of Get and Set, in their order.
func TestFieldErrors(t *testing.T) {
	w := busy(t)
	a := made(t, w, 1, "main.Cell")
	wrong := wrongValues()
	unchanged(t, w, func() {
		for _, v := range wrong {
			if x, e := w.Get(v, "v"); e != world.ErrBroken || !alike(x, api.Value{}) {
				t.Errorf("Get of %v: error %d", v, e)
			}
			if x, e := w.Set(v, "zz", v); e != world.ErrBroken || !alike(x, api.Value{}) {
				t.Errorf("Set of %v: error %d", v, e)
			}
			if x, e := w.Set(a, "v", v); e != world.ErrBroken || !alike(x, api.Value{}) {
				t.Errorf("Set to %v: error %d", v, e)
			}
			if _, e := w.Set(a, "zz", v); e != world.ErrMethod {
				t.Errorf("Set of no field to %v: error %d", v, e)
			}
		}
		if _, e := w.Set(a, "v", api.Value{}); e != world.ErrBroken {
			t.Errorf("Set to nothing: error %d", e)
		}
		for _, v := range []api.Value{{}, one, truth(true), none, tuple(one, one), object(0), object(2), actor(0), a} {
			if _, e := w.Get(v, "zz"); e != world.ErrMethod {
				t.Errorf("Get of no field of %v: error %d", v, e)
			}
			if _, e := w.Set(v, "zz", one); e != world.ErrMethod {
				t.Errorf("Set of no field of %v: error %d", v, e)
			}
		}
	})
	p := program(t)
	e := entity(p, "String")
	e.Fields = []api.Field{{Name: "x"}}
	cell := entity(p, "main.Cell")
	cell.Fields = []api.Field{{Name: "x"}, {Name: "x"}}
	w, _ = world.New(p, []string{"a"})
	if _, e := w.Get(object(0), "x"); e != world.ErrMethod {
		t.Errorf("a field of a String: error %d", e)
	}
	made(t, w, 1, "String")
	c := made(t, w, 1, "main.Cell")
	set(t, w, c, "x", one)
	if s := w.State(); !alike(s.Cells[c.Lo].Fields, []api.Value{one, {}}) || world.Check(s) != api.OK {
		t.Errorf("of two fields with one name: %v", s.Cells[c.Lo])
	}
}

// TestTypes: the names of the entities of values.
func TestTypes(t *testing.T) {
	w := changed(t, busy(t), func(s *world.State) {
		s.Actors, s.Cells = append(s.Actors, world.Actor{}), append(s.Cells, api.Cell{})
	})
	for i, typ := range num.Types() {
		if got := w.Type(api.Value{Kind: api.ValNumber + i}); got != typ {
			t.Errorf("Type of a number: %q, not %q", got, typ)
		}
	}
	for _, c := range []struct {
		v    api.Value
		want string
	}{
		{truth(true), "Bool"}, {object(0), "String"}, {object(2), "Array[String val]"}, {object(3), "Env"}, {object(4), "main.Cell"}, {actor(0), "Out"}, {actor(2), "main.Worker"},
		{none, "None"}, {unit("x"), "x"}, {tuple(one, one), ""}, {api.Value{}, ""}, {object(8), ""}, {object(99), ""}, {object(-1), ""}, {actor(3), ""}, {actor(4), ""}, {actor(-1), ""},
		{api.Value{Kind: 24}, ""}, {api.Value{Kind: -1}, ""}, {api.Value{Kind: 6}, ""},
	} {
		if got := w.Type(c.v); got != c.want {
			t.Errorf("Type of %v: %q, not %q", c.v, got, c.want)
		}
	}
}

// TestIs: of names, and through all kinds of types.
func TestIs(t *testing.T) {
	w := busy(t)
	p := program(t)
	values := append(rightValues(), object(2), object(3), object(6), object(7))
	for _, s := range []string{"main.Cell", "main.Named", "main.Deep", "main.Sized", "main.Leaf", "main.Worker", "main.Main", "Any", "Stringable", "U32", "Bool", "None", "main.Red", "String", "Array[String val]", "Env", "Out", "x"} {
		for c := api.Iso; c <= api.Tag; c++ {
			typ := api.Type{Kind: api.TypeName, Name: s, Cap: c, Mark: c % 3}
			for _, v := range values {
				name := w.Type(v)
				want := name != "" && subtype.Bare(p, api.Type{Kind: api.TypeName, Name: name, Cap: api.Val}, typ)
				if got := w.Is(v, typ); got != want {
					t.Errorf("%v is %s: %t", v, s, got)
				}
			}
		}
	}
	cell, leaf := object(4), object(6)
	array := api.Type{Kind: api.TypeTuple, Args: []api.Type{ty("U32 val"), ty("(U32 iso | None val)")}}
	for _, c := range []struct {
		v    api.Value
		t    api.Type
		want bool
	}{
		{cell, ty("main.Cell iso"), true}, {cell, ty("main.Named ref"), true}, {cell, ty("main.Leaf ref"), false}, {object(0), ty("main.Sized ref"), true}, {object(2), ty("main.Sized ref"), true},
		{cell, ty("main.Sized box"), false}, {one, ty("U32 val"), true}, {one, ty("U8 val"), false}, {none, ty("None val"), true}, {truth(true), ty("Bool val"), true},
		{actor(2), ty("main.Worker tag"), true}, {actor(2), ty("main.Deep ref"), true}, {cell, ty("Any tag"), true}, {api.Value{}, ty("Any tag"), false}, {tuple(one, one), ty("Any tag"), false},
		{cell, ty("(main.Leaf ref | main.Cell val)"), true}, {cell, ty("(main.Leaf ref | U32 val)"), false}, {cell, ty("(main.Named ref & main.Cell val)"), true},
		{cell, ty("(main.Named ref & main.Sized val)"), false}, {tuple(one, leaf), ty("(U32 val, main.Leaf ref)"), true}, {tuple(one, leaf), ty("(main.Leaf ref, U32 val)"), false},
		{tuple(one, leaf, one), ty("(U32 val, main.Leaf ref)"), false}, {cell, ty("(U32 val, main.Leaf ref)"), false}, {tuple(one, leaf), ty("(U8 val | (U32 val, Any tag))"), true},
		{cell, ty("(this -> main.Cell ref)"), true}, {leaf, ty("(this -> main.Cell ref)"), false}, {cell, ty("this ref"), false}, {cell, ty("$A ref"), false}, {cell, api.Type{}, false},
		{cell, api.Type{Kind: 99}, false}, {cell, api.Type{Kind: api.TypeName, Name: "main.Cell"}, false}, {cell, api.Type{Kind: api.TypeArrow}, false}, {cell, api.Type{Kind: api.TypeArrow, Args: []api.Type{ty("main.Cell ref")}}, false},
		{tuple(one, none), array, true}, {tuple(none, one), array, false}, {cell, ty("main.Cell[U32 val] ref"), false}, {api.Value{Kind: 18, Lo: 1 << 40}, ty("U32 val"), false}, {object(99), ty("Any tag"), false},
		{deepTuple(101), array, false}, {unit("x"), ty("x val"), false}, {cell, api.Type{Kind: api.TypeBoth}, true}, {cell, api.Type{Kind: api.TypeUnion}, false},
	} {
		if got := w.Is(c.v, c.t); got != c.want {
			t.Errorf("%v is %v: %t", c.v, c.t, got)
		}
	}
}

// TestSame: equal in all fields.
func TestSame(t *testing.T) {
	l := append(append(rightValues(), wrongValues()...), tuple(one, tuple(none, one)), tuple(one, tuple(none, none)), tuple(one, tuple(none)))
	for i, a := range l {
		for j, b := range l {
			if got := world.Same(a, b); got != alike(a, b) || i == j && !got {
				t.Errorf("Same of %v and %v: %t", a, b, got)
			}
		}
	}
	if !world.Same(api.Value{Kids: []api.Value{}}, api.Value{}) {
		t.Error("an empty list is another one than nil")
	}
}

// TestDrop: an object is taken away, just once.
func TestDrop(t *testing.T) {
	w := busy(t)
	leaf := made(t, w, 1, "main.Leaf")
	for _, n := range []int{-1, 9, 1 << 40} {
		unchanged(t, w, func() {
			if e := w.Drop(n); e != api.ErrNone {
				t.Errorf("Drop of %d: error %d", n, e)
			}
		})
	}
	dump := w.Dump()
	for i, want := range []api.Errno{api.OK, api.ErrNone} {
		if e := w.Drop(int(leaf.Lo)); e != want {
			t.Errorf("Drop, time %d: error %d", i+1, e)
		}
	}
	s := w.State()
	if !alike(s.Cells[leaf.Lo], api.Cell{}) || world.Check(s) != api.OK || w.Dump() != dump {
		t.Errorf("an object that was taken away: %v", s.Cells[leaf.Lo])
	}
	if v := made(t, w, 1, "main.Leaf"); v.Lo != leaf.Lo+1 {
		t.Errorf("numbers are used again: %d", v.Lo)
	}
	if _, e := w.Get(leaf, "n"); e != world.ErrBroken {
		t.Errorf("Get of what was taken away: error %d", e)
	}
}
