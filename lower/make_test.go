package lower_test

import (
	"reflect"
	"slices"
	"testing"

	"hackamore/api"
	"hackamore/generic"
	"hackamore/names"
	"hackamore/samples"
	"hackamore/types"
	"hackamore/walk"
)

// text is a program in which bodies are put into the method go of main.Main.
const text = `
trait Named
  fun box name(): String => "named"
trait tag Teller
  be tell(n: U32) => n
class Leaf
  var n: U32
  new create() => n = U32.create(3)
  new make(n': U32) => n = n'
  new fails(b: Bool) ? =>
    n = U32.create(1)
    if b then error end
class Cell is Named
  var n: U32 = U32.create(7)
  var o: (Cell | None) = None
  new create() => None
  fun ref put(x: U32): U32 => n = x
  fun get(): U32 => n
  fun deep(x: U32): U32 => if x == U32.create(0) then n else deep(x - U32.create(1)) end
  fun may(x: U32): U32 ? => if x > U32.create(3) then error else return x end
  fun then_n(x: U32): U32 ? =>
    try
      if x > U32.create(5) then error end
      x
    then
      if x == U32.create(1) then error end
    end
  fun odd(): None => n
  fun tell(n': U32): U32 => n' + n
primitive Red is Named
  fun size(): USize => 5
actor Worker is Teller
  var n: U32
  new create(n': U32) => n = n'
  be add(x: U32) => n = n + x
  be take(c: (Cell iso | U32 | None)) =>
    match c
    | let k: U32 => n = n + k
    | None => n = U32.create(9)
    else
      n = U32.create(77)
    end
actor Other is Teller
  new create() => None
  be tell(n: U32) => None
actor Main
  var w: Worker
  var k: U32 = U32.create(1)
  let out: Out
  new create(env: Env) =>
    out = env.out
    w = Worker.create(U32.create(1))
    w.add(go(U32.create(3), U32.create(4), Cell.create()))
    w.add(k)
    again(U32.create(1), U32.create(0))
    again(U32.create(6), U32.create(2))
    let a: Array[U32] = Array[U32].create()
    let b: (Red | Leaf | Other | F64 | Array[U32]) = Red
  fun ref go(a: U32, b: U32, c: Cell): U32 => a
  fun ref may_go(a: U32, b: U32, c: Cell): U32 ? => a
  be again(a: U32, b: U32) =>
    try w.add(may_go(a, b, Cell.create())) else w.add(U32.create(99)) end
    w.add(go(b, a, Cell.create()))
`

// parsed returns the reified program of a text.
func parsed(t testing.TB, text string) []api.Entity {
	t.Helper()
	p, e := names.Program(map[string]string{"main": text}, nil)
	if e != api.OK {
		t.Fatalf("the program: error %d", e)
	}
	p, e = generic.Reify(p, "main.Main")
	if e != api.OK {
		t.Fatalf("reified: error %d", e)
	}
	return p
}

// method returns a pointer to a method of a program.
func method(p []api.Entity, typ, name string) *api.Method {
	i := slices.IndexFunc(p, func(e api.Entity) bool { return e.Name == typ })
	j := slices.IndexFunc(p[i].Methods, func(m api.Method) bool { return m.Name == name })
	return &p[i].Methods[j]
}

// ty returns the type with a text.
func ty(s string) api.Type {
	t, e := types.Parse(s)
	if e != api.OK {
		panic("no type: " + s)
	}
	return t
}

// x returns an expression, tx one with a type.
func x(op int, text string, kids ...api.Expr) api.Expr {
	return api.Expr{Op: op, Text: text, Kids: kids}
}

func tx(op int, text, typ string, kids ...api.Expr) api.Expr {
	return api.Expr{Op: op, Text: text, Types: []api.Type{ty(typ)}, Kids: kids}
}

func lit(s string) api.Expr { return tx(api.OpLit, s, "U32 val") }

func str(s string) api.Expr { return tx(api.OpLit, s, "String val") }

func local(name string) api.Expr { return x(api.OpLocal, name) }

func seq(l ...api.Expr) api.Expr { return x(api.OpSeq, "", l...) }

func returns(l ...api.Expr) api.Expr { return x(api.OpReturn, "", l...) }

func variable(name, typ string, l ...api.Expr) api.Expr { return tx(api.OpVar, name, typ, l...) }

func assign(name string, e api.Expr) api.Expr { return x(api.OpAssign, name, e) }

func call(name string, l ...api.Expr) api.Expr { return x(api.OpCall, name, l...) }

func create(typ, name string, l ...api.Expr) api.Expr { return tx(api.OpNew, name, typ, l...) }

// flat creates something whose name is that of a type with arguments.
func flat(name, constructor string, l ...api.Expr) api.Expr {
	return api.Expr{Op: api.OpNew, Text: constructor, Types: []api.Type{{Kind: api.TypeName, Name: name, Cap: api.Ref}}, Kids: l}
}

func when(c, a, b api.Expr) api.Expr { return x(api.OpIf, "", c, a, b) }

func while(c, a, b api.Expr) api.Expr { return x(api.OpWhile, "", c, a, b) }

func try(a, b, c api.Expr) api.Expr { return x(api.OpTry, "", a, b, c) }

func tuple(l ...api.Expr) api.Expr { return x(api.OpTuple, "", l...) }

func match(e api.Expr, cases ...api.Expr) api.Expr {
	return x(api.OpMatch, "", append([]api.Expr{e}, cases...)...)
}

func cased(name, typ string, guard, body api.Expr) api.Expr {
	return tx(api.OpCase, name, typ, guard, body)
}

var (
	nothing   = api.Expr{}
	this      = x(api.OpThis, "")
	fails     = x(api.OpError, "")
	breaks    = x(api.OpBreak, "")
	continues = x(api.OpContinue, "")
	yes       = tx(api.OpLit, "true", "Bool val")
	no        = tx(api.OpLit, "false", "Bool val")
	nix       = tx(api.OpUnit, "", "None val")
	one       = lit("1")
)

// maker makes bodies that are rarely wrong: a, b, and n0 to n3 are numbers, c is a Cell, v is anything.
type maker struct {
	*samples.Maker
	loop, try bool // there is something around
	loops     int
}

func (m maker) num(depth int) api.Expr {
	if depth <= 0 {
		if m.Below(2) == 0 {
			return lit(m.One("0", "1", "2", "5", "9"))
		}
		return local(m.One("a", "b", "n0", "n1", "n2"))
	}
	kid := func() api.Expr { return m.num(depth - 1) }
	switch m.Below(16) {
	case 0, 1, 2:
		return call(m.One("add", "sub", "mul", "div", "min", "op_xor"), kid(), kid())
	case 3:
		return assign(m.One("a", "b", "n0", "n1"), kid())
	case 4:
		return call("put", local("c"), kid())
	case 5:
		return x(api.OpSet, m.One("k"), this, kid())
	case 6:
		return x(api.OpItem, m.One("0", "2"), tuple(kid(), m.any(depth-1), kid()))
	case 7:
		return when(m.truth(depth-1), m.block(depth-1), m.block(depth-1))
	case 8:
		return match(m.any(depth-1), cased("q", "U32 val", m.guard(depth-1), local("q")), cased("", m.One("U32 val", "None val", "Any tag"), nothing, kid()), cased("", "Any tag", nothing, kid()))
	case 9, 10:
		in := m
		in.try = true
		return try(in.block(depth-1), m.block(depth-1), m.last(depth-1))
	case 11:
		if m.try {
			return call(m.One("may", "then_n"), local("c"), kid())
		}
	case 12:
		if m.try {
			return call(m.One("add_partial", "sub_partial", "div_partial"), kid(), kid())
		}
	case 13:
		return x(api.OpGet, "n", create("main.Leaf ref", "make", kid()))
	case 14:
		if m.Below(2) == 0 {
			return call("tell", local("c"), kid())
		}
		return call("get", local("c"))
	}
	return m.block(depth - 1)
}

func (m maker) guard(depth int) api.Expr {
	if m.Below(2) == 0 {
		return nothing
	}
	return m.truth(depth)
}

func (m maker) last(depth int) api.Expr {
	if m.Below(2) == 0 {
		return nothing
	}
	return m.stat(depth)
}

func (m maker) truth(depth int) api.Expr {
	if depth <= 0 {
		return []api.Expr{yes, no}[m.Below(2)]
	}
	switch m.Below(4) {
	case 0:
		return x(api.OpIs, "", m.any(depth-1), m.any(depth-1))
	case 1:
		return call("op_not", m.truth(depth-1))
	}
	return call(m.One("lt", "eq", "gt"), m.num(depth-1), m.num(depth-1))
}

func (m maker) any(depth int) api.Expr {
	switch m.Below(9) {
	case 0:
		return local("v")
	case 1:
		return assign("v", m.any(depth-1))
	case 2:
		return nix
	case 3:
		return m.truth(depth - 1)
	case 4:
		return local("c")
	case 5:
		return when(m.truth(depth-1), m.num(depth-1), nothing)
	case 6:
		return m.stat(depth - 1)
	case 7:
		return create("main.Leaf ref", "create")
	}
	return m.num(depth - 1)
}

// block returns a number behind some statements.
func (m maker) block(depth int) api.Expr {
	l := []api.Expr{}
	for range m.Below(3) {
		l = append(l, m.stat(depth-1))
	}
	if m.Below(8) == 0 {
		l = append(l, m.leaving(depth-1))
	}
	return seq(append(l, m.num(depth-1))...)
}

// leaving returns something that leaves, perhaps only if a condition holds.
func (m maker) leaving(depth int) api.Expr {
	e := returns(m.num(depth - 1))
	switch k := m.Below(4); {
	case k == 0 && m.loop:
		e = breaks
	case k == 1 && m.loop:
		e = continues
	case k == 2 && m.try:
		e = fails
	}
	if m.Below(3) > 0 {
		e = when(m.truth(depth-1), e, nothing)
	}
	return e
}

func (m maker) stat(depth int) api.Expr {
	worker := x(api.OpGet, "w", this)
	switch m.Below(14) {
	case 0, 1, 2:
		return call("add", worker, m.num(depth-1))
	case 3:
		return call("tell", worker, m.num(depth-1))
	case 4:
		return call("take", worker, when(m.truth(depth-1), m.num(depth-1), nothing))
	case 5, 6:
		if depth > 1 {
			return m.while(depth)
		}
	case 7:
		return m.leaving(depth - 1)
	case 8:
		return seq(variable(m.One("n0", "n1", "n2"), "U32 val", m.num(depth-1)))
	case 9:
		return when(m.truth(depth-1), m.stat(depth-1), nothing)
	case 10:
		return assign("n3", call("add", x(api.OpConsume, "n3"), m.num(depth-1)))
	case 11:
		return seq(x(api.OpConsume, "v"), assign("v", m.num(depth-1)))
	case 12:
		return call("add", create("main.Worker tag", "create", m.num(depth-1)), m.num(depth-1))
	case 13:
		if m.try {
			return create("main.Leaf ref", "fails", m.truth(depth-1))
		}
		return seq(variable("z", "U32 val"), assign("z", m.num(depth-1)))
	}
	return m.num(depth - 1)
}

// while returns a loop that comes to an end.
func (m maker) while(depth int) api.Expr {
	in := m
	in.loop = true
	count := "i" + m.One("0", "1", "2", "3", "4", "5", "6", "7", "8", "9")
	body := in.block(depth - 1)
	next := assign(count, call("add", local(count), one))
	goes := call("lt", local(count), lit(m.One("0", "1", "3")))
	if m.Below(3) == 0 {
		goes = seq(goes, when(in.truth(depth-2), continues, nothing), goes)
		goes = seq(next, goes)
	}
	last := nothing
	if m.Below(2) == 0 {
		last = m.block(depth - 1)
	}
	return seq(variable(count, "U32 val", lit("0")), while(goes, seq(next, body), last))
}

// body returns a body of go.
func (m maker) body(depth int) api.Expr {
	l := []api.Expr{variable("v", "Any tag", nix)}
	for _, n := range []string{"n0", "n1", "n2", "n3"} {
		l = append(l, variable(n, "U32 val", lit(m.One("0", "1", "6"))))
	}
	return seq(append(l, m.block(depth))...)
}

// with returns a program in which bodies stand in go and may_go.
func with(p []api.Entity, body, may api.Expr) []api.Entity {
	p = walk.Program(p)
	method(p, "main.Main", "go").Body = body
	method(p, "main.Main", "may_go").Body = may
	return p
}

// alike compares two values of any type; nil and empty lists are equal.
func alike(a, b any) bool { return equal(reflect.ValueOf(a), reflect.ValueOf(b)) }

func equal(a, b reflect.Value) bool {
	switch a.Kind() {
	case reflect.Slice:
		if a.Len() != b.Len() {
			return false
		}
		for i := range a.Len() {
			if !equal(a.Index(i), b.Index(i)) {
				return false
			}
		}
		return true
	case reflect.Struct:
		for i := range a.NumField() {
			if !equal(a.Field(i), b.Field(i)) {
				return false
			}
		}
		return true
	}
	return a.Equal(b)
}
