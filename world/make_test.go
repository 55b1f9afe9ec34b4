package world_test

import (
	"reflect"
	"slices"
	"strings"
	"sync"
	"testing"

	"hackamore/api"
	"hackamore/generic"
	"hackamore/names"
	"hackamore/num"
	"hackamore/types"
	"hackamore/walk"
	"hackamore/world"
)

const text = `
trait Named
  fun box name(): String => "named"
  fun box other(): U32 => U32.create(1)
trait Deep is Named
  fun box deep(): U32 => U32.create(1)
interface box Sized
  fun box size(): USize
primitive Red is Named
class Leaf
  var n: U32
  new create() => None
class Cell is Deep
  var i: (Cell iso | None)
  var t: Cell trn
  var r: Cell ref
  var v: Cell val
  var b: Cell box
  var g: Cell tag
  var u: (Cell ref | Cell val | None)
  var p: (Cell iso, (Leaf val | U32))
  var l: Array[Cell]
  var a: Any tag
  new create() => None
  fun ref name(): String => "cell"
actor Worker is Deep
  var c: Cell
  var k: (Cell val | None)
  var n: U32
  new create() => None
  be take(c': Cell iso, k': (Cell val | None), n': U32) => None
  be deep() => None
actor Main
  var c: Cell
  var w: Worker
  var s: Sized
  new create(env: Env) =>
    c = Cell.create()
    w = Worker.create()
    s = "x"
    let a: (Array[Array[Cell box]] | Array[String] | Leaf | Red | U8 | F32 | Stringable) = "x"
  fun u(x: USize, y: F64, z: I128, b: Bool) => None
`

var reified = sync.OnceValues(func() ([]api.Entity, api.Errno) {
	p, e := names.Program(map[string]string{"main": text}, nil)
	if e != api.OK {
		return nil, e
	}
	return generic.Reify(p, "main.Main")
})

// program returns the reified program of the tests.
func program(t testing.TB) []api.Entity {
	t.Helper()
	p, e := reified()
	if e != api.OK {
		t.Fatalf("the program: error %d", e)
	}
	return walk.Program(p)
}

// begun returns a world at its beginning.
func begun(t testing.TB, args ...string) *world.World {
	t.Helper()
	w, e := world.New(program(t), args)
	if e != api.OK {
		t.Fatalf("New: error %d", e)
	}
	return w
}

// ty returns the type with a text.
func ty(s string) api.Type {
	t, e := types.Parse(s)
	if e != api.OK {
		panic("no type: " + s)
	}
	return t
}

// Values. A number is written with its type.
func object(n int) api.Value { return api.Value{Kind: api.ValObject, Lo: uint64(n)} }

func actor(n int) api.Value { return api.Value{Kind: api.ValActor, Lo: uint64(n)} }

func unit(name string) api.Value { return api.Value{Kind: api.ValUnit, Name: name} }

func tuple(l ...api.Value) api.Value { return api.Value{Kind: api.ValTuple, Kids: l} }

func truth(b bool) api.Value {
	if b {
		return api.Value{Kind: api.ValBool, Lo: 1}
	}
	return api.Value{Kind: api.ValBool}
}

func number(typ, s string) api.Value {
	v, e := num.Parse(typ, s)
	if e != api.OK {
		panic("no number: " + s)
	}
	return v
}

func usize(n string) api.Value { return number("USize", n) }

var (
	none = unit("None")
	one  = api.Value{Kind: 18, Lo: 1} // of U32
)

// deepTuple returns a tuple with so many levels.
func deepTuple(levels int) api.Value {
	v := one
	for range levels - 1 {
		v = tuple(v, one)
	}
	return v
}

// alike compares two values of any type; nil and empty lists are equal.
func alike(a, b any) bool { return equal(reflect.ValueOf(a), reflect.ValueOf(b)) }

func equal(a, b reflect.Value) bool {
	switch a.Kind() {
	case reflect.Slice:
		if a.Len() != b.Len() {
			return false
		}
		for i := range a.Len() {
			if !equal(a.Index(i), b.Index(i)) {
				return false
			}
		}
		return true
	case reflect.Struct:
		for i := range a.NumField() {
			if !equal(a.Field(i), b.Field(i)) {
				return false
			}
		}
		return true
	}
	return a.Equal(b)
}

// changed returns a state that is loaded behind a change of that of a world.
func changed(t testing.TB, w *world.World, change func(*world.State)) *world.World {
	t.Helper()
	s := w.State()
	change(&s)
	w, e := world.Load(s)
	if e != api.OK {
		t.Fatalf("Load: error %d", e)
	}
	return w
}

// unchanged runs something that must change nothing.
func unchanged(t testing.TB, w *world.World, do func()) {
	t.Helper()
	before := w.State()
	do()
	if !alike(before, w.State()) {
		t.Error("something was changed")
	}
}

// entity returns a pointer into a program.
func entity(p []api.Entity, name string) *api.Entity {
	i := slices.IndexFunc(p, func(e api.Entity) bool { return e.Name == name })
	return &p[i]
}

// made makes an object, whatever for.
func made(t testing.TB, w *world.World, actor int, typ string) api.Value {
	t.Helper()
	v, e := w.Make(actor, typ)
	if e != api.OK {
		t.Fatalf("Make of %s: error %d", typ, e)
	}
	return v
}

func textOf(t testing.TB, w *world.World, s string) api.Value {
	t.Helper()
	v, e := w.Text(1, s)
	if e != api.OK {
		t.Fatalf("Text: error %d", e)
	}
	return v
}

func arrayOf(t testing.TB, w *world.World, typ string, l ...api.Value) api.Value {
	t.Helper()
	v, e := w.Array(1, typ, l)
	if e != api.OK {
		t.Fatalf("Array: error %d", e)
	}
	return v
}

func set(t testing.TB, w *world.World, v api.Value, field string, x api.Value) {
	t.Helper()
	if _, e := w.Set(v, field, x); e != api.OK {
		t.Fatalf("Set of %s: error %d", field, e)
	}
}

// field returns the index of a field.
func field(p []api.Entity, name, field string) int {
	return slices.IndexFunc(entity(p, name).Fields, func(f api.Field) bool { return f.Name == field })
}

func long(n int) string { return strings.Repeat("x", n) }
