package meaning_test

import (
	"reflect"
	"slices"
	"strings"
	"sync"
	"testing"

	"hackamore/api"
	"hackamore/generic"
	"hackamore/meaning"
	"hackamore/names"
	"hackamore/num"
	"hackamore/types"
	"hackamore/walk"
	"hackamore/world"
)

const text = `
trait Named
  fun box name(): String => "named"
class Leaf
  var n: U32
  new create() => None
  new make(n': U32) => n = n'
  new fails() ? => error
class Cell is Named
  var n: U32 = U32.create(7)
  var o: (Cell | None) = None
  fun ref put(x: U32): U32 => n = x
  fun get(): U32 => n
  fun deep(x: U32): U32 => if x == U32.create(0) then n else deep(x - U32.create(1)) end
  fun may(b: Bool): U32 ? => if b then error else return U32.create(3) end
  fun odd(): None => n
  fun two(x: U32, y: U32): U32 => x - y
primitive Red is Named
  fun size(): USize => 5
actor Worker
  var n: U32
  new create(n': U32) => n = n'
  be add(x: U32) => n = n + x
  be fail() => None
  fun tag me(): U32 => U32.create(9)
actor Main
  var w: Worker
  new create(env: Env) =>
    w = Worker.create(U32.create(1))
    let a: (Array[Cell] | Leaf | Cell | Red | U8 | F64 | Array[String]) = Red
`

// parsed returns the reified program of a text.
func parsed(text string) ([]api.Entity, api.Errno) {
	p, e := names.Program(map[string]string{"main": text}, nil)
	if e != api.OK {
		return nil, e
	}
	return generic.Reify(p, "main.Main")
}

var reified = sync.OnceValues(func() ([]api.Entity, api.Errno) { return parsed(text) })

// program returns the reified program of the tests.
func program(t testing.TB) []api.Entity {
	t.Helper()
	p, e := reified()
	if e != api.OK {
		t.Fatalf("the program: error %d", e)
	}
	return walk.Program(p)
}

// begun returns a world at its beginning, in which the objects 2 and 3 are a Cell and a Leaf, and the actor 2 is a Worker.
func begun(t testing.TB) *world.World { return over(t, program(t)) }

func over(t testing.TB, p []api.Entity) *world.World {
	t.Helper()
	w, e := world.New(p, nil)
	if e != api.OK {
		t.Fatalf("New: error %d", e)
	}
	for _, typ := range []string{"main.Cell", "main.Leaf"} {
		if _, e := w.Make(1, typ); e != api.OK {
			t.Fatalf("Make: error %d", e)
		}
	}
	if _, e := w.Spawn("main.Worker"); e != api.OK {
		t.Fatalf("Spawn: error %d", e)
	}
	if _, e := w.Set(object(2), "n", u32(7)); e != api.OK {
		t.Fatalf("Set: error %d", e)
	}
	return w
}

// method returns a pointer to a method of a program.
func method(p []api.Entity, typ, name string) *api.Method {
	i := slices.IndexFunc(p, func(e api.Entity) bool { return e.Name == typ })
	j := slices.IndexFunc(p[i].Methods, func(m api.Method) bool { return m.Name == name })
	return &p[i].Methods[j]
}

// ty returns the type with a text.
func ty(s string) api.Type {
	t, e := types.Parse(s)
	if e != api.OK {
		panic("no type: " + s)
	}
	return t
}

// x returns an expression, tx one with a type.
func x(op int, text string, kids ...api.Expr) api.Expr {
	return api.Expr{Op: op, Text: text, Kids: kids}
}

func tx(op int, text, typ string, kids ...api.Expr) api.Expr {
	return api.Expr{Op: op, Text: text, Types: []api.Type{ty(typ)}, Kids: kids}
}

func lit(s string) api.Expr { return tx(api.OpLit, s, "U32 val") }

func str(s string) api.Expr { return tx(api.OpLit, s, "String val") }

func local(name string) api.Expr { return x(api.OpLocal, name) }

func seq(l ...api.Expr) api.Expr { return x(api.OpSeq, "", l...) }

func returns(l ...api.Expr) api.Expr { return x(api.OpReturn, "", l...) }

func variable(name string, l ...api.Expr) api.Expr { return tx(api.OpVar, name, "U32 val", l...) }

func assign(name string, e api.Expr) api.Expr { return x(api.OpAssign, name, e) }

func call(name string, l ...api.Expr) api.Expr { return x(api.OpCall, name, l...) }

func create(typ, name string, l ...api.Expr) api.Expr { return tx(api.OpNew, name, typ, l...) }

func when(c, a, b api.Expr) api.Expr { return x(api.OpIf, "", c, a, b) }

func while(c, a, b api.Expr) api.Expr { return x(api.OpWhile, "", c, a, b) }

func try(a, b, c api.Expr) api.Expr { return x(api.OpTry, "", a, b, c) }

func tuple(l ...api.Expr) api.Expr { return x(api.OpTuple, "", l...) }

func match(e api.Expr, cases ...api.Expr) api.Expr {
	return x(api.OpMatch, "", append([]api.Expr{e}, cases...)...)
}

func cased(name, typ string, guard, body api.Expr) api.Expr {
	return tx(api.OpCase, name, typ, guard, body)
}

var (
	nothing   = api.Expr{}
	this      = x(api.OpThis, "")
	fails     = x(api.OpError, "")
	breaks    = x(api.OpBreak, "")
	continues = x(api.OpContinue, "")
	yes       = tx(api.OpLit, "true", "Bool val")
	no        = tx(api.OpLit, "false", "Bool val")
	nix       = tx(api.OpUnit, "", "None val")
	one       = lit("1")
	two       = lit("2")
	three     = lit("3")
	bad       = local("missing") // is Wrong with ErrScope
)

// Values.
func object(n int) api.Value { return api.Value{Kind: api.ValObject, Lo: uint64(n)} }

func actor(n int) api.Value { return api.Value{Kind: api.ValActor, Lo: uint64(n)} }

func unit(name string) api.Value { return api.Value{Kind: api.ValUnit, Name: name} }

func pair(l ...api.Value) api.Value { return api.Value{Kind: api.ValTuple, Kids: l} }

func u32(n int) api.Value { return api.Value{Kind: 18, Lo: uint64(n)} }

func number(typ, s string) api.Value {
	v, e := num.Parse(typ, s)
	if e != api.OK {
		panic("no number: " + s)
	}
	return v
}

func truth(b bool) api.Value {
	if b {
		return api.Value{Kind: api.ValBool, Lo: 1}
	}
	return api.Value{Kind: api.ValBool}
}

var none = unit("None")

// Outcomes.
func value(v api.Value) meaning.Outcome { return meaning.Outcome{Kind: meaning.Value, Value: v} }

func result(v api.Value) meaning.Outcome { return meaning.Outcome{Kind: meaning.Return, Value: v} }

func raised() meaning.Outcome { return meaning.Outcome{Kind: meaning.Error} }

func wrong(e api.Errno) meaning.Outcome { return meaning.Outcome{Kind: meaning.Wrong, Code: e} }

func empty(e api.Errno) meaning.Outcome { return meaning.Outcome{Kind: meaning.Empty, Code: e} }

func of(kind int) meaning.Outcome { return meaning.Outcome{Kind: kind} }

// alike compares two values of any type; nil and empty lists are equal.
func alike(a, b any) bool { return equal(reflect.ValueOf(a), reflect.ValueOf(b)) }

func equal(a, b reflect.Value) bool {
	switch a.Kind() {
	case reflect.Slice:
		if a.Len() != b.Len() {
			return false
		}
		for i := range a.Len() {
			if !equal(a.Index(i), b.Index(i)) {
				return false
			}
		}
		return true
	case reflect.Struct:
		for i := range a.NumField() {
			if !equal(a.Field(i), b.Field(i)) {
				return false
			}
		}
		return true
	}
	return a.Equal(b)
}

func long(n int) string { return strings.Repeat("x", n) }
