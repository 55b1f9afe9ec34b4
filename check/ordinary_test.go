package check_test

import (
	"strings"
	"testing"

	"hackamore/api"
	"hackamore/check"
	"hackamore/flow"
)

// ordinary is a program as one writes it.
const ordinary = `trait Shape
  fun box area(): U32
  fun box twice(): U32 => area() * U32.create(2)

class Square is Shape
  let _s: U32
  new create(s: U32) => _s = s
  fun box area(): U32 => _s * _s

class Pair[A: Any #any, B: Any #share]
  var _a: A
  let _b: B
  new create(a: A, b: B) =>
    _a = consume a
    _b = b
  fun box second(): B => _b
  fun ref swap(a: A): A^ => _a = consume a

class List[A: Any #share]
  var head: A
  var tail: (List[A] | None)
  new create(a: A) =>
    head = a
    tail = None
  fun ref push(a: A): None =>
    match tail
    | let n: None => tail = List[A].create(a)
    | let l: List[A] => l.push(a)
    end
  fun box count(): USize =>
    match tail
    | let l: List[A] box => l.count() + 1
    else 1
    end

actor Counter
  var _n: U32
  let _out: Out
  new create(out: Out) =>
    _n = U32.create(0)
    _out = out
  be add(n: U32) => _n = _n + n
  be show() => _out.print(_n.string())
  be give(s: Square iso) =>
    let v: Square val = consume s
    _out.print(v.area().string())

actor Main
  new create(env: Env) =>
    let l: List[String] = List[String].create("a")
    l.push("b")
    env.out.print(l.count().string())
    let c: Counter = Counter.create(env.out)
    c.add(U32.create(3))
    c.show()
    let s: Square iso = recover Square.create(U32.create(4)) end
    c.give(consume s)
    let p: Pair[Square, String] = Pair[Square, String].create(Square.create(U32.create(2)), "x")
    let q: Square = p.swap(Square.create(U32.create(9)))
    env.out.print(q.twice().string())
    env.out.print(p.second())
    let t: (U32, String) = (U32.create(1), "a")
    env.out.print(t._2)
    var i: U32 = U32.create(0)
    while i < U32.create(10) do
      i = i + U32.create(1)
      if i == U32.create(5) then break end
    else
      env.out.print("never")
    end
    let f: {(U32): U32} box = {(x: U32): U32 => x + x}
    env.out.print(f.apply(U32.create(2)).string())
    for k: USize in Range.create(0, 3) do
      env.out.print(k.string())
    end
    try
      let a: Array[U32] = [as U32: U32.create(1); U32.create(2)]
      env.out.print(a.apply(1)?.string())
    else
      env.out.print("none")
    end
`

// TestOrdinary: an ordinary program is taken; with another line it is not.
func TestOrdinary(t *testing.T) {
	if _, f, e := check.Check(program(t, ordinary)); e != api.OK {
		t.Fatalf("error %d at %v", e, f)
	}
	for _, l := range []struct {
		line, other string
		want        api.Errno
	}{
		{"c.give(consume s)", "c.give(s)", check.ErrArgs},
		{"c.give(consume s)", "c.give(consume s)\n    c.give(consume s)", flow.ErrUnset},
		{"let s: Square iso", "let s: Square", check.ErrResult},
		{"be give(s: Square iso)", "be give(s: Square)", check.ErrSend},
		{"let v: Square val = consume s", "let v: Square val = s", check.ErrResult},
		{"_a = consume a\n    _b = b", "_b = b", flow.ErrField},
		{"fun box area(): U32 => _s * _s", "fun box area(): U64 => _s.u64()", check.ErrEntity},
		{"fun box area(): U32 => _s * _s", "fun box area(): U32 => _s = _s", check.ErrPlace},
		{"fun box second(): B => _b", "fun box second(): B => this._c", api.ErrNone},
		{"| let l: List[A] box => l.count() + 1", "| let l: List[A] => l.count() + 1", check.ErrCases},
		{"fun ref swap(a: A): A^ => _a = consume a", "fun box swap(a: A): A^ => _a = consume a", check.ErrView},
		{"a.apply(1)?", "a.apply(\"1\")?", check.ErrArgs},
		{"    try\n      let a: Array[U32] = [as U32: U32.create(1); U32.create(2)]\n      env.out.print(a.apply(1)?.string())\n    else\n      env.out.print(\"none\")\n    end", "    [as U32: U32.create(1)].apply(0)?", flow.ErrPartial},
		{"recover Square.create(U32.create(4)) end", "recover l; Square.create(U32.create(4)) end", check.ErrSend},
		{"c.show()", "c.hide()", api.ErrNone},
		{"c.show()", "c.show().area()", api.ErrNone},
		{"let t: (U32, String) = (U32.create(1), \"a\")", "let t: (String, U32) = (U32.create(1), \"a\")", check.ErrResult},
		{"env.out.print(t._2)", "env.out.print(t._3)", api.ErrRange},
		{"if i == U32.create(5)", "if i", api.ErrType},
		{"  be show()", "  be show() ?", check.ErrEntity},
	} {
		if !strings.Contains(ordinary, l.line) {
			t.Fatalf("no line %q", l.line)
		}
		p := program(t, strings.Replace(ordinary, l.line, l.other, 1))
		if _, f, e := check.Check(p); e != l.want {
			t.Errorf("%s: error %d at %v, not %d", l.other, e, f, l.want)
		}
	}
}
