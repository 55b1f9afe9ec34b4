package lower

import (
	"strings"
	"unicode/utf8"

	"hackamore/api"
	"hackamore/num"
	"hackamore/ssa"
)

// rule makes what an expression means, and returns its value; absent, if this is None, or nobody asks for it.
type rule func(b *builder, x *api.Expr, want bool) int

// rules returns the rules, by the operations.
func rules() map[int]rule {
	return map[int]rule{
		api.OpLit:      (*builder).literal,
		api.OpLocal:    (*builder).read,
		api.OpThis:     (*builder).this,
		api.OpGet:      (*builder).get,
		api.OpSet:      (*builder).set,
		api.OpVar:      (*builder).declared,
		api.OpLet:      (*builder).declared,
		api.OpAssign:   (*builder).assign,
		api.OpConsume:  (*builder).consume,
		api.OpSeq:      (*builder).sequence,
		api.OpIf:       (*builder).choice,
		api.OpWhile:    (*builder).loop,
		api.OpMatch:    (*builder).match,
		api.OpTry:      (*builder).attempt,
		api.OpError:    (*builder).raise,
		api.OpReturn:   (*builder).giveUp,
		api.OpBreak:    (*builder).leaveLoop,
		api.OpContinue: (*builder).leaveLoop,
		api.OpCall:     (*builder).call,
		api.OpNew:      (*builder).create,
		api.OpRecover:  (*builder).recovered,
		api.OpTuple:    (*builder).tuple,
		api.OpItem:     (*builder).item,
		api.OpIs:       (*builder).same,
		api.OpUnit:     (*builder).unit,
	}
}

// eval makes what an expression means. It returns its value, if somebody asks for it.
func (b *builder) eval(x *api.Expr, want bool) int {
	if b.at < 0 {
		return absent
	}
	v := b.rules[x.Op](b, x, want)
	if b.at < 0 {
		return absent
	}
	return v
}

// value makes an expression whose value is needed.
func (b *builder) value(x *api.Expr) int { return b.given(b.eval(x, true)) }

// perhaps makes an expression that may be none.
func (b *builder) perhaps(x *api.Expr, want bool) int {
	if x.Op == 0 {
		return absent
	}
	return b.eval(x, want)
}

// values makes expressions whose values are needed; false, if one of them does not end.
func (b *builder) values(l []api.Expr) ([]int, bool) {
	var values []int
	for i := range l {
		values = append(values, b.value(&l[i]))
	}
	return values, b.at >= 0
}

// all makes expressions of whose values nobody asks.
func (b *builder) all(l []api.Expr) int {
	for i := range l {
		b.eval(&l[i], false)
	}
	return absent
}

func (b *builder) literal(x *api.Expr, want bool) int {
	switch name := x.Types[0].Name; {
	case !want:
		return absent
	case name == "String":
		return b.text(x.Text)
	case name == "Bool":
		return b.truth(x.Text == "true")
	default:
		v, _ := num.Parse(name, x.Text)
		return b.constant(v, name)
	}
}

const maxText = 4000 // bytes of a Text of the intermediate form

// text makes a String; a long one of parts, which are put behind each other.
func (b *builder) text(s string) int {
	n := len(s)
	if n > maxText {
		n = maxText
		for n > maxText-utf8.UTFMax && !utf8.RuneStart(s[n]) {
			n--
		}
	}
	v := b.emit(ssa.Ins{Op: ssa.Text, Text: s[:n], Type: named("String", api.Val)})
	if n == len(s) {
		return v
	}
	return b.emit(ssa.Ins{Op: ssa.Native, Text: "String.add", Args: []int{v, b.text(s[n:])}, Type: named("String", api.Val)})
}

func (b *builder) this(x *api.Expr, want bool) int { return 0 }

func (b *builder) read(x *api.Expr, want bool) int {
	if !want {
		return absent
	}
	return b.load(b.local(x.Text))
}

func (b *builder) get(x *api.Expr, want bool) int {
	if !want {
		return b.eval(&x.Kids[0], false)
	}
	v := b.value(&x.Kids[0])
	if b.at < 0 {
		return absent
	}
	return b.emit(ssa.Ins{Op: ssa.Get, Text: x.Text, Args: []int{v}, Type: b.field(b.types[v], x.Text)})
}

// field returns the type of a field of a value; the zero Type, if it is not known.
func (b *builder) field(t api.Type, name string) api.Type {
	if e := b.entities[t.Name]; t.Kind == api.TypeName && e != nil {
		for _, f := range e.Fields {
			if f.Name == name {
				return f.Type
			}
		}
	}
	return api.Type{}
}

func (b *builder) set(x *api.Expr, want bool) int {
	l, ok := b.values(x.Kids)
	if !ok {
		return absent
	}
	return b.emit(ssa.Ins{Op: ssa.Set, Text: x.Text, Args: l})
}

func (b *builder) declared(x *api.Expr, want bool) int {
	v := absent
	if len(x.Kids) > 0 {
		v = b.eval(&x.Kids[0], true)
	}
	if b.at >= 0 {
		b.store(b.local(x.Text), b.given(v))
	}
	return absent
}

func (b *builder) assign(x *api.Expr, want bool) int {
	v := b.value(&x.Kids[0])
	if b.at < 0 {
		return absent
	}
	to := b.local(x.Text)
	old := b.store(to, v)
	if !want {
		return absent
	}
	to.old = true
	return old
}

// consume reads a variable. That it has nothing behind it matters only to one who asks for what it had.
func (b *builder) consume(x *api.Expr, want bool) int {
	v, from := absent, b.local(x.Text)
	if want {
		v = b.load(from)
	}
	b.clears[b.store(from, b.none())] = from
	return v
}

func (b *builder) sequence(x *api.Expr, want bool) int {
	last := len(x.Kids) - 1
	if last < 0 {
		return absent
	}
	b.all(x.Kids[:last])
	return b.eval(&x.Kids[last], want)
}

func (b *builder) recovered(x *api.Expr, want bool) int { return b.eval(&x.Kids[0], want) }

func (b *builder) tuple(x *api.Expr, want bool) int {
	if !want {
		return b.all(x.Kids)
	}
	l, ok := b.values(x.Kids)
	if !ok {
		return absent
	}
	t := api.Type{Kind: api.TypeTuple}
	for _, v := range l {
		t.Args = append(t.Args, b.types[v])
	}
	return b.emit(ssa.Ins{Op: ssa.Tuple, Args: l, Type: t})
}

func (b *builder) item(x *api.Expr, want bool) int {
	if !want {
		return b.eval(&x.Kids[0], false)
	}
	v := b.value(&x.Kids[0])
	if b.at < 0 {
		return absent
	}
	n, ok := index(x.Text)
	if !ok {
		// No tuple of the intermediate form has so many elements.
		b.end(ssa.End{Kind: ssa.Stuck})
		return absent
	}
	var typ api.Type
	if t := b.types[v]; t.Kind == api.TypeTuple && n < len(t.Args) {
		typ = t.Args[n]
	}
	return b.emit(ssa.Ins{Op: ssa.Item, N: n, Args: []int{v}, Type: typ})
}

func (b *builder) same(x *api.Expr, want bool) int {
	if !want {
		return b.all(x.Kids)
	}
	l, ok := b.values(x.Kids)
	if !ok {
		return absent
	}
	return b.emit(ssa.Ins{Op: ssa.Is, Args: l, Type: named("Bool", api.Val)})
}

func (b *builder) unit(x *api.Expr, want bool) int {
	if !want {
		return absent
	}
	return b.constant(unit(x.Types[0].Name), x.Types[0].Name)
}

// call makes a call, and a message where the receiver is an actor that has a behaviour of this name.
func (b *builder) call(x *api.Expr, want bool) int {
	l, ok := b.values(x.Kids)
	if !ok {
		return absent
	}
	m := b.meaning(x.Text)
	send := ssa.Ins{Op: ssa.Send, Text: x.Text, Args: l, Type: named("None", api.Val)}
	call := ssa.Ins{Op: ssa.Call, Text: x.Text, Args: l, Type: b.returned(b.types[l[0]], x.Text)}
	switch {
	case len(m.sends) == 0:
		return b.invoke(call, m.raises)
	case !m.calls:
		return b.emit(send)
	}
	r, sends, calls, behind := b.result(want), newLabel(), newLabel(), newLabel()
	b.branch(b.emit(ssa.Ins{Op: ssa.Fits, Args: l[:1:1], Type: oneOf(m.sends)}), sends, calls)
	b.start(sends)
	b.give(r, b.emit(send))
	b.jump(behind)
	b.start(calls)
	b.give(r, b.invoke(call, m.raises))
	b.jump(behind)
	b.start(behind)
	return b.taken(r)
}

// oneOf returns the type of some actors: unions within a union, if they are many.
func oneOf(names []string) api.Type {
	var l []api.Type
	for _, n := range names {
		l = append(l, named(n, api.Tag))
	}
	for len(l) > 1 {
		n := min(len(l), api.MaxList)
		l = append(l[n:], api.Type{Kind: api.TypeUnion, Args: l[:n:n]})
	}
	return l[0]
}

// returned returns the type of what a method returns; the zero Type, if it is not known.
func (b *builder) returned(t api.Type, name string) api.Type {
	if t.Kind != api.TypeName {
		return api.Type{}
	}
	if m := b.method(t.Name, name); m != nil {
		return m.Result
	}
	return api.Type{}
}

// invoke makes a call, or a direct one; where an error of it goes somewhere, and it may end with one, the block ends with it.
func (b *builder) invoke(x ssa.Ins, raises bool) int {
	if !raises || !b.catches() {
		return b.emit(x)
	}
	x = b.made(x)
	on, fails := newLabel(), b.errors()
	b.end(ssa.End{Kind: ssa.Try, Call: x, To: []int{b.block(on), b.block(fails)}})
	b.start(on)
	return x.Result
}

// create makes an object, an actor, an Array, a number or a unit.
func (b *builder) create(x *api.Expr, want bool) int {
	name := x.Types[0].Name
	isCreate := x.Text == "create"
	if strings.HasPrefix(name, "Array[") && isCreate && len(x.Kids) == 0 {
		return b.emit(ssa.Ins{Op: ssa.Make, Text: name, Type: named(name, api.Ref)})
	}
	if _, err := num.Kind(name); err == api.OK && isCreate && len(x.Kids) == 1 {
		return b.eval(&x.Kids[0], want)
	}
	e := b.entities[name]
	if e != nil && e.Kind == api.Primitive {
		b.all(x.Kids)
		if b.at < 0 || !want {
			return absent
		}
		return b.constant(unit(name), name)
	}
	l, ok := b.values(x.Kids)
	if !ok {
		return absent
	}
	m := b.method(name, x.Text)
	if e == nil || e.Kind != api.Class && e.Kind != api.Actor || m == nil || m.Kind != api.New || len(m.Params) != len(l) {
		b.end(ssa.End{Kind: ssa.Stuck})
		return absent
	}
	if e.Kind == api.Actor {
		return b.emit(ssa.Ins{Op: ssa.Spawn, Name: name, Text: x.Text, Args: l, Type: named(name, api.Tag)})
	}
	object := b.emit(ssa.Ins{Op: ssa.Make, Text: name, Type: named(name, api.Ref)})
	if m.Body.Op == 0 {
		b.end(ssa.End{Kind: ssa.Stuck})
		return absent
	}
	b.invoke(ssa.Ins{Op: ssa.Direct, Text: name + "." + x.Text, Args: append([]int{object}, l...), Type: m.Result}, m.Partial)
	return object
}
