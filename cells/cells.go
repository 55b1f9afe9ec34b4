// Package cells has a program of classes, actors and primitives, and bodies for a function of it, made by numbers, for tests of
// the layers that check and run programs.
package cells

import (
	"strconv"
	"strings"

	"hackamore/api"
	"hackamore/samples"
)

// Text is the text of the program, as a module of the package main.
const Text = `
interface Has
  fun box get(): Cell box

trait tag Teller
  be tell(n: U32)

trait box Named
  fun box name(): String => "a"

class Cell is Named
  var c: Cell ref
  var i: Cell iso
  var t: Cell trn
  var b: Cell box
  var g: Cell tag
  var v: U32
  let l: U32
  new create(other: Cell ref) =>
    c = other
    i = recover iso Leaf.create().cell() end
    t = recover trn Leaf.create().cell() end
    b = other
    g = other
    v = U32.create(1)
    l = U32.create(2)
  fun box get(): Cell box => c
  fun ref raw(): Cell ref => c
  fun ref put(n: U32, o: Cell): U32 => v = n
  fun box view(): this->Cell => c
  fun box may(): U32 ? => error
  fun iso gone(): U32 => U32.create(1)

class iso Leaf
  new create() => None
  new box odd(n: U32)? => error
  new iso sent(n: U32) => None
  fun tag cell(): Cell iso^ =>
    while true do None end
    cell()

primitive Prim
  new create() => None
  fun name(): String => "b"

actor Worker is Teller
  var n: U32
  new create(m: U32) => n = m
  be tell(n': U32) => n = n'
  be take(c: Cell iso) => None
  fun tag me(): Worker tag => this
  fun ref own(): U32 => n

actor Main
  new create(env: Env) =>
    let a: Array[Cell] = Array[Cell].create()
    let p: Prim = Prim.create()
    let w: Worker = Worker.create(U32.create(1))
    let h: (Has | None) = None
    let s: Leaf = Leaf.sent(U32.create(1))
    let k: (Any | Stringable | String) = "x"
    let f: F32 = F32.create(1.5)
  fun box look(a: Array[Cell]): U32 => U32.create(1)
`

// Filled returns the text of the program with more constructors, in which Cells that nobody else has can be made, though the
// checker would not take this: the innermost ones have fields without values.
func Filled() string {
	const loop = "\n    while true do None end\n    cell()\n"
	const blank = "c = this; b = this; g = this; v = U32.create(1); l = U32.create(2)"
	s := strings.Replace(Text, loop, " Cell.third()\n", 1)
	return strings.Replace(s, "  fun ref raw()", "  new first() => "+blank+"\n  new second() => "+blank+"; i = Cell.first(); t = Cell.first()\n"+
		"  new third() => "+blank+"; i = Cell.second(); t = Cell.second()\n  fun ref raw()", 1)
}

// Calling returns that text with a Main that calls the function with bodies.
func Calling() string {
	return strings.Replace(Filled(), "    let a: Array", "    Worker.create(Cell.third().put(U32.create(3), Cell.third()))\n    let a: Array", 1)
}

// Entity and Method are the names of the function for which bodies are made: fun ref put(n: U32, o: Cell): U32.
const (
	Entity = "main.Cell"
	Method = "put"
)

// Maker makes bodies; equal makers make equal ones. One in so many parts is none of the wanted type, if Wrong is not 0.
type Maker struct {
	*samples.Maker
	Wrong int
}

// New returns a maker with a number.
func New(seed uint64, wrong int) *Maker { return &Maker{samples.New(seed), wrong} }

// Body returns a body.
func (m *Maker) Body(depth int) api.Expr {
	s := &scope{names: map[string][]string{number: {"n"}, cell: {"o"}}, count: new(int)}
	return m.block(s, depth, number)
}

// The types of values that are made.
const (
	number = "U32 val"
	truth  = "Bool val"
	cell   = "main.Cell ref"
	given  = "main.Cell iso^"
	kept   = "main.Cell iso"
	either = "(None val | U32 val)"
	nix    = "None val"
	open   = "var" // numbers that may be assigned
)

// typeOf returns a type of the program.
func typeOf(s string) api.Type {
	name := func(n string, c int) api.Type { return api.Type{Kind: api.TypeName, Name: n, Cap: c} }
	switch s {
	case number:
		return name("U32", api.Val)
	case truth:
		return name("Bool", api.Val)
	case cell:
		return name("main.Cell", api.Ref)
	case kept:
		return name("main.Cell", api.Iso)
	case either:
		return api.Type{Kind: api.TypeUnion, Args: []api.Type{typeOf(nix), typeOf(number)}}
	case nix:
		return name("None", api.Val)
	}
	return name(s, api.Val)
}

// scope has the names of the local variables that may be used, by their types, and how many there are.
type scope struct {
	names map[string][]string
	loop  bool
	try   bool
	block bool // a recover block
	count *int
}

// inner returns a scope within another one.
func (s *scope) inner() *scope {
	r := *s
	r.names = map[string][]string{}
	for typ, l := range s.names {
		r.names[typ] = append([]string(nil), l...)
	}
	return &r
}

// recovering returns the scope of a recover block.
func (s *scope) recovering() *scope {
	r := s.inner()
	r.names[cell], r.names[open] = nil, nil
	r.block, r.loop, r.try = true, false, false
	return r
}

// fresh returns the name of a further local variable.
func (s *scope) fresh() string {
	*s.count++
	return "x" + strconv.Itoa(*s.count)
}

func expr(op int, text string, kids ...api.Expr) api.Expr {
	return api.Expr{Op: op, Text: text, Kids: kids}
}

func typed(op int, text string, t api.Type, kids ...api.Expr) api.Expr {
	return api.Expr{Op: op, Text: text, Types: []api.Type{t}, Kids: kids}
}

func call(name string, kids ...api.Expr) api.Expr { return expr(api.OpCall, name, kids...) }

func create(name, entity string, kids ...api.Expr) api.Expr {
	return typed(api.OpNew, name, typeOf(entity), kids...)
}

// block returns some statements, and then a value.
func (m *Maker) block(s *scope, depth int, typ string) api.Expr {
	s = s.inner()
	x := expr(api.OpSeq, "")
	for range m.Below(3) {
		x.Kids = append(x.Kids, m.statement(s, depth-1))
	}
	x.Kids = append(x.Kids, m.value(s, depth-1, typ))
	return x
}

// named returns a local variable of a type, if there is one.
func (m *Maker) named(s *scope, op int, typ string, kids ...api.Expr) (api.Expr, bool) {
	l := s.names[typ]
	if len(l) == 0 {
		return api.Expr{}, false
	}
	return expr(op, m.One(l...), kids...), true
}
