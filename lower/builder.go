package lower

import (
	"strconv"

	"hackamore/api"
	"hackamore/ssa"
	"hackamore/walk"
)

// absent is a value that was not made: None, or that of what does not end.
const absent = -1

// label is a place in a function. It gets its block when something leads to it.
type label struct{ block int }

func newLabel() *label { return &label{-1} }

// variable is a local variable of the intermediate form.
type variable struct {
	name  string
	typ   api.Type // of all that it may have; zero, if this is not known
	typed bool     // it has got its type
	old   bool     // somebody asks for what it had
}

// become gives a variable one more type: it is known as long as all are equal.
func (v *variable) become(t api.Type) {
	if !v.typed {
		v.typ, v.typed = t, true
	} else if !walk.SameType(v.typ, t) {
		v.typ = api.Type{}
	}
}

// builder makes the function of a method. Nothing is made where nothing is reached (at is below 0).
type builder struct {
	*source
	f         ssa.Func
	at        int // the block that is being filled
	next      int // the number of the next value
	types     []api.Type
	locals    map[string]*variable // by their names in the body
	variables map[string]*variable // by their names in the function
	clears    map[int]*variable    // stores that only say that there is nothing in a variable any more
	scopes    []scope
	failing   *label // where an error leaves the function
	rules     map[int]rule
	isNew     bool
	isNone    bool // what is returned is None
}

// function returns the function of a method of an entity.
func (s *source) function(entity string, m *api.Method) (f ssa.Func, e api.Errno) {
	defer func() {
		if recover() != nil {
			f, e = ssa.Func{}, ErrLower
		}
	}()
	if !walk.Small(m.Body, api.MaxNodes, api.MaxTree) || !isRight(&m.Body, false) {
		return ssa.Func{}, ErrLower
	}
	b := &builder{
		source: s, locals: make(map[string]*variable), variables: make(map[string]*variable),
		clears: make(map[int]*variable), failing: newLabel(), rules: rules(),
	}
	b.isNew, b.isNone = m.Kind == api.New, m.Result.Kind == api.TypeName && m.Result.Name == "None"
	b.begin(entity, m)
	b.f.Blocks = make([]ssa.Block, 1)
	for i, p := range m.Params {
		b.store(b.locals[p.Name], i+1)
	}
	b.giveBack(b.eval(&m.Body, !b.isNew && !b.isNone))
	if b.start(b.failing); b.at >= 0 {
		b.end(ssa.End{Kind: ssa.Error})
	}
	return b.finish()
}

// begin names the function, its parameters and its local variables.
func (b *builder) begin(entity string, m *api.Method) {
	b.f.Name, b.f.Partial, b.f.Result = entity+"."+m.Name, m.Partial, walk.Type(m.Result)
	b.f.Params = append(b.f.Params, api.Type{Kind: api.TypeName, Name: entity, Cap: m.Cap})
	for _, p := range m.Params {
		b.f.Params = append(b.f.Params, walk.Type(p.Type))
		b.declare(p.Name, p.Type)
	}
	for x := range walk.Body(m.Body) {
		switch x.Op {
		case api.OpVar, api.OpLet:
			b.declare(x.Text, x.Types[0])
		case api.OpCase:
			if x.Text != "" {
				b.declare(x.Text, x.Types[0])
			}
		}
	}
	b.types = append(b.types, b.f.Params...)
	b.next = len(b.f.Params)
}

func (b *builder) declare(name string, t api.Type) { b.local(name).become(t) }

// local returns the variable for a name of the body; one that nothing declares has no type.
func (b *builder) local(name string) *variable {
	v := b.locals[name]
	if v == nil {
		v = b.newVariable()
		b.locals[name] = v
	}
	return v
}

func (b *builder) newVariable() *variable {
	v := &variable{name: "v" + strconv.Itoa(len(b.variables))}
	b.variables[v.name] = v
	return v
}

// emit puts an instruction into the block that is being filled, and returns its value.
func (b *builder) emit(x ssa.Ins) int {
	x = b.made(x)
	block := &b.f.Blocks[b.at]
	block.Ins = append(block.Ins, x)
	return x.Result
}

// made returns an instruction with a new Result.
func (b *builder) made(x ssa.Ins) ssa.Ins {
	x.Result = b.next
	if x.Op != ssa.Fits && !isSmall(x.Type, new(int), 1) {
		x.Type = api.Type{}
	}
	x.Type = walk.Type(x.Type)
	b.next++
	b.types = append(b.types, x.Type)
	return x
}

// Types of values that are larger than this are not told.
const maxParts, maxDepth = 100, 20

// isSmall reports whether a type, of which so many parts were met, is not too large to be told.
func isSmall(t api.Type, met *int, depth int) bool {
	if *met++; *met > maxParts || depth > maxDepth {
		return false
	}
	for _, a := range t.Args {
		if !isSmall(a, met, depth+1) {
			return false
		}
	}
	return true
}

func (b *builder) constant(v api.Value, typ string) int {
	return b.emit(ssa.Ins{Op: ssa.Const, Lit: v, Type: named(typ, api.Val)})
}

func named(typ string, c int) api.Type { return api.Type{Kind: api.TypeName, Name: typ, Cap: c} }

func (b *builder) none() int { return b.constant(unit("None"), "None") }

func unit(name string) api.Value { return api.Value{Kind: api.ValUnit, Name: name} }

func (b *builder) truth(is bool) int { return b.constant(truth(is), "Bool") }

func truth(is bool) api.Value {
	v := api.Value{Kind: api.ValBool}
	if is {
		v.Lo = 1
	}
	return v
}

// given returns a value that is there: None for one that was not made.
func (b *builder) given(v int) int {
	if v == absent && b.at >= 0 {
		return b.none()
	}
	return v
}

func (b *builder) load(v *variable) int {
	return b.emit(ssa.Ins{Op: ssa.Load, Text: v.name, Type: v.typ})
}

func (b *builder) store(v *variable, x int) int {
	return b.emit(ssa.Ins{Op: ssa.Store, Text: v.name, Args: []int{x}})
}

// block returns the block of a label.
func (b *builder) block(l *label) int {
	if l.block < 0 {
		l.block = len(b.f.Blocks)
		b.f.Blocks = append(b.f.Blocks, ssa.Block{})
	}
	return l.block
}

// end ends the block that is being filled.
func (b *builder) end(e ssa.End) {
	b.f.Blocks[b.at].End = e
	b.at = absent
}

// start goes on at a label, if something leads to it.
func (b *builder) start(l *label) { b.at = l.block }

func (b *builder) jump(l *label) {
	if b.at >= 0 {
		b.end(ssa.End{Kind: ssa.Jump, To: []int{b.block(l)}})
	}
}

func (b *builder) branch(v int, yes, no *label) {
	if b.at >= 0 {
		b.end(ssa.End{Kind: ssa.Branch, Args: []int{v}, To: []int{b.block(yes), b.block(no)}})
	}
}

// giveBack returns a value from the function.
func (b *builder) giveBack(v int) {
	if b.at < 0 {
		return
	}
	switch {
	case b.isNew:
		v = 0
	case b.isNone || v == absent:
		v = b.none()
	}
	b.end(ssa.End{Kind: ssa.Return, Args: []int{v}})
}

// result is the variable of what several ways lead to; nil, if nobody asks for it.
func (b *builder) result(want bool) *variable {
	if !want {
		return nil
	}
	return b.newVariable()
}

// give stores the value of a way.
func (b *builder) give(v *variable, x int) {
	if v == nil || b.at < 0 {
		return
	}
	x = b.given(x)
	v.become(b.types[x])
	b.store(v, x)
}

// taken returns the value behind the ways.
func (b *builder) taken(v *variable) int {
	if v == nil || b.at < 0 {
		return absent
	}
	return b.load(v)
}
