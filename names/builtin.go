package names

import (
	"iter"
	"strings"

	"hackamore/api"
	"hackamore/num"
)

// Builtin returns the texts of modules of the builtin package.
func Builtin() []string {
	l := []string{firstText}
	for text := range numberTexts() {
		l = append(l, text)
	}
	return append(l, lastText)
}

const firstText = `interface tag Any
interface box Stringable
  fun box string(): String val
interface ref Iterator[A: Any #any]
  fun ref has_next(): Bool val
  fun ref next(): A^ ?
primitive val None
  fun box string(): String val
primitive val Bool
  fun box eq(that: Bool val): Bool val
  fun box ne(that: Bool val): Bool val
  fun box op_and(that: Bool val): Bool val
  fun box op_or(that: Bool val): Bool val
  fun box op_xor(that: Bool val): Bool val
  fun box op_not(): Bool val
  fun box string(): String val
`

const lastText = `class val String
  fun box size(): USize val
  fun box apply(i: USize val): U8 val ?
  fun box add(that: String box): String val
  fun box eq(that: String box): Bool val
  fun box ne(that: String box): Bool val
  fun box lt(that: String box): Bool val
  fun box le(that: String box): Bool val
  fun box gt(that: String box): Bool val
  fun box ge(that: String box): Bool val
  fun box substring(from: USize val, to: USize val): String val
  fun box string(): String val
class ref Array[A: Any #any]
  new ref create()
  fun box size(): USize val
  fun box apply(i: USize val): this->A! ?
  fun ref update(i: USize val, value: A): A^ ?
  fun ref push(value: A): None val
  fun ref pop(): A^ ?
class ref Range
  var _at: USize val
  let _end: USize val
  new ref create(from: USize val, to: USize val) =>
    this._at = from
    this._end = to
    this
  fun ref has_next(): Bool val =>
    this._at.lt(this._end)
  fun ref next(): USize val ? =>
    if this._at.lt(this._end) then
      this._at = this._at.add(1)
    else
      error
    end
primitive val AmbientAuth
actor tag Out
  be tag print(text: String val)
class val Env
  let out: Out tag
  let args: Array[String val] val
  let root: AmbientAuth val
`

// numberTexts hands on a text for each number type, with the methods that it has.
func numberTexts() iter.Seq[string] {
	return func(yield func(string) bool) {
		for _, typ := range num.Types() {
			methods, _ := num.Methods(typ)
			text := "primitive val " + typ + "\n  new val create(value: " + typ + " val)\n"
			for _, m := range methods {
				text += numberMethod(m)
			}
			if !yield(text) {
				return
			}
		}
	}
}

// numberEntities hands on the entities of number types, as their texts have them.
func numberEntities() iter.Seq[api.Entity] {
	return func(yield func(api.Entity) bool) {
		for _, typ := range num.Types() {
			methods, _ := num.Methods(typ)
			e := api.Entity{Kind: api.Primitive, Name: typ, Cap: api.Val}
			made := named(typ, api.Val)
			made.Mark = api.Ephemeral
			e.Methods = append(e.Methods, api.Method{
				Kind: api.New, Name: "create", Cap: api.Val, Params: []api.Param{{Name: "value", Type: named(typ, api.Val)}}, Result: made,
			})
			for _, s := range methods {
				m := api.Method{Kind: api.Fun, Name: s.Name, Cap: api.Box, Result: named(s.Result, api.Val), Partial: s.Partial}
				for _, p := range s.Params {
					m.Params = append(m.Params, api.Param{Name: "that", Type: named(p, api.Val)})
				}
				e.Methods = append(e.Methods, m)
			}
			if !yield(e) {
				return
			}
		}
	}
}

func numberMethod(m num.Signature) string {
	var params []string
	for _, p := range m.Params {
		params = append(params, "that: "+p+" val")
	}
	text := "  fun box " + m.Name + "(" + strings.Join(params, ", ") + "): " + m.Result + " val"
	if m.Partial {
		text += " ?"
	}
	return text + "\n"
}
