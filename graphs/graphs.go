// Package graphs makes functions and programs of the intermediate form, by numbers, and plays them, for tests of the layers
// that work on them.
package graphs

import (
	"slices"

	"hackamore/api"
	"hackamore/samples"
	"hackamore/ssa"
)

// Maker makes functions that are right; equal makers make equal ones.
type Maker struct {
	*samples.Maker
	Blocks    int  // how many there are at most
	Variables bool // with loads and stores
	Targets   []ssa.Func
}

// New returns a maker with a number.
func New(seed uint64, blocks int, variables bool) *Maker {
	return &Maker{Maker: samples.New(seed), Blocks: blocks, Variables: variables}
}

// builder fills the blocks of a function.
type builder struct {
	*Maker
	f     ssa.Func
	preds [][]int
	over  [][]bool // over[a][b]: each way to b goes through a
	made  [][]int  // of each block
	next  int
}

// Func returns a function with a name, and so many parameters.
func (m *Maker) Func(name string, params int) ssa.Func {
	b := &builder{Maker: m, next: params}
	b.f = ssa.Func{Name: name, Partial: m.Below(2) == 0, Result: m.typ()}
	for range params {
		b.f.Params = append(b.f.Params, m.typ())
	}
	b.ways()
	b.over = Dominance(b.f.Blocks)
	b.made = make([][]int, len(b.f.Blocks))
	for i := range b.f.Blocks {
		b.fill(i)
	}
	b.phis()
	return b.f
}

func (m *Maker) typ() api.Type {
	switch m.Below(4) {
	case 0:
		return api.Type{}
	case 1:
		return api.Type{Kind: api.TypeName, Name: "U8", Cap: api.Val}
	}
	return api.Type{Kind: api.TypeName, Name: m.One("A", "B", "T", "Any"), Cap: api.Ref}
}

// ways makes the blocks and their ends, so that all are reached.
func (b *builder) ways() {
	n := 1 + b.Below(b.Blocks)
	to := make([][]int, n)
	for i := 1; i < n; i++ {
		p := b.Below(i)
		for len(to[p]) == 2 {
			p = (p + 1) % i
		}
		to[p] = append(to[p], i)
	}
	b.f.Blocks = make([]ssa.Block, n)
	for i := range to {
		for n > 1 && len(to[i]) < 2 && b.Below(3) == 0 {
			to[i] = append(to[i], 1+b.Below(n-1))
		}
		end := &b.f.Blocks[i].End
		end.To = to[i]
		switch len(to[i]) {
		case 0:
			end.Kind = []int{ssa.Return, ssa.Return, ssa.Return, ssa.Error, ssa.Stuck}[b.Below(5)]
		case 1:
			end.Kind = ssa.Jump
		default:
			end.Kind = ssa.Branch
		}
	}
	b.preds = Preds(b.f.Blocks)
	for i := range b.f.Blocks {
		end := &b.f.Blocks[i].End
		if end.Kind != ssa.Branch || end.To[0] == end.To[1] || b.Below(3) > 0 {
			continue
		}
		if len(b.preds[end.To[0]]) > 1 {
			slices.Reverse(end.To)
		}
		if len(b.preds[end.To[0]]) == 1 {
			end.Kind = ssa.Try
		}
	}
}

// Preds returns the predecessors of blocks.
func Preds(l []ssa.Block) [][]int {
	preds := make([][]int, len(l))
	for i, b := range l {
		for _, to := range b.End.To {
			preds[to] = append(preds[to], i)
		}
	}
	return preds
}

// Dominance tells for each two blocks a and b whether b is not reached without a.
func Dominance(l []ssa.Block) [][]bool {
	over := make([][]bool, len(l))
	for a := range l {
		met := make([]bool, len(l))
		met[a] = true
		var visit func(b int)
		visit = func(b int) {
			if !met[b] {
				met[b] = true
				for _, to := range l[b].End.To {
					visit(to)
				}
			}
		}
		visit(0)
		over[a] = make([]bool, len(l))
		for b := range l {
			over[a][b] = a == b || a == 0 || !met[b]
		}
	}
	return over
}

// fresh returns the number of a new value of a block.
func (b *builder) fresh(block int) int {
	b.next += 1 + b.Below(2)
	b.made[block] = append(b.made[block], b.next-1)
	return b.next - 1
}

// some returns a value that is there in a block.
func (b *builder) some(block int) (int, bool) {
	var l []int
	for i := range b.f.Params {
		l = append(l, i)
	}
	for a, made := range b.made {
		if b.over[a][block] {
			l = append(l, made...)
		}
	}
	if len(l) == 0 {
		return 0, false
	}
	if k := len(l); k > 4 && b.Below(2) == 0 {
		l = l[k-4:]
	}
	return l[b.Below(len(l))], true
}

// put puts an instruction behind those of a block; what it needs is made, if nothing is there.
func (b *builder) put(block int, x ssa.Ins) int {
	x.Result = b.fresh(block)
	b.f.Blocks[block].Ins = append(b.f.Blocks[block].Ins, x)
	return x.Result
}

// take returns so many values that are there.
func (b *builder) take(block, n int) []int {
	var l []int
	for range n {
		v, ok := b.some(block)
		if !ok || b.Below(8) == 0 {
			v = b.put(block, b.constant())
		}
		l = append(l, v)
	}
	return l
}

func (b *builder) constant() ssa.Ins {
	lit := api.Value{Kind: api.ValNumber + 6, Lo: uint64(b.Below(4))}
	if b.Below(3) == 0 {
		lit = api.Value{Kind: api.ValBool, Lo: uint64(b.Below(2))}
	}
	return ssa.Ins{Op: ssa.Const, Lit: lit, Type: b.typ()}
}

// fill makes the phis and instructions of a block, and the values of its end.
func (b *builder) fill(i int) {
	if i > 0 {
		for range b.Below(3) {
			b.put(i, ssa.Ins{Op: ssa.Phi, Type: b.typ()})
		}
	}
	for _, p := range b.preds[i] {
		// The block with the try has its number; its Call is made when that is filled.
		if end := b.f.Blocks[p].End; end.Kind == ssa.Try && end.To[0] == i && p < i {
			b.made[i] = append(b.made[i], end.Call.Result)
		}
	}
	if i == 0 && b.Variables && b.Below(4) > 0 {
		for _, name := range names() {
			b.store(i, name)
			b.made[i] = b.made[i][:len(b.made[i])-1]
		}
	}
	for range b.Below(6) {
		if b.Variables && b.Below(3) == 0 {
			b.variable(i)
		} else {
			b.instruction(i)
		}
	}
	end := &b.f.Blocks[i].End
	switch end.Kind {
	case ssa.Branch, ssa.Return:
		args := b.take(i, 1)
		b.f.Blocks[i].End.Args = args
	case ssa.Try:
		call := b.call(i, 1+b.Below(2))
		call.Result = b.next
		b.next++
		end.Call = call
		if to := end.To[0]; to <= i {
			b.made[to] = append(b.made[to], call.Result)
		}
	}
}

// call returns a call with its arguments, or a direct one.
func (b *builder) call(block, args int) ssa.Ins {
	if k := len(b.Targets); k > 0 && b.Below(2) == 0 {
		f := b.Targets[b.Below(k)]
		return ssa.Ins{Op: ssa.Direct, Text: f.Name, Args: b.take(block, len(f.Params)), Type: b.typ()}
	}
	return ssa.Ins{Op: ssa.Call, Text: b.One("m", "n", "k"), Args: b.take(block, args), Type: b.typ()}
}

// instruction puts some instruction into a block.
func (b *builder) instruction(i int) {
	switch b.Below(16) {
	case 0, 1:
		b.put(i, b.constant())
	case 2, 3, 4:
		b.put(i, ssa.Ins{Op: ssa.Native, Text: b.One("U8.add", "U8.sub", "U8.lt", "Bool.op_and"), Args: b.take(i, 2)})
	case 5:
		b.put(i, ssa.Ins{Op: ssa.Tuple, Args: b.take(i, 2+b.Below(2))})
	case 6:
		b.put(i, ssa.Ins{Op: ssa.Item, N: b.Below(3), Args: b.take(i, 1)})
	case 7:
		b.put(i, ssa.Ins{Op: ssa.Is, Args: b.take(i, 2)})
	case 8:
		b.put(i, ssa.Ins{Op: ssa.Fits, Type: b.typ(), Args: b.take(i, 1)})
	case 9:
		b.put(i, ssa.Ins{Op: ssa.Make, Text: b.One("A", "B"), Type: b.typ(), Flag: b.Below(6) == 0})
	case 10, 11:
		b.object(i)
	case 12:
		b.put(i, b.call(i, 1+b.Below(2)))
	case 13:
		b.put(i, ssa.Ins{Op: ssa.Text, Text: b.One("", "a", "é")})
	case 14:
		b.put(i, ssa.Ins{Op: ssa.Send, Text: "be", Args: b.take(i, 1+b.Below(2))})
	default:
		b.put(i, ssa.Ins{Op: ssa.Spawn, Name: "W", Text: "create", Args: b.take(i, b.Below(2))})
	}
}

// object puts the making of an object, and what is done with its fields, into a block.
func (b *builder) object(i int) {
	v := b.put(i, ssa.Ins{Op: ssa.Make, Text: "A", Type: b.typ()})
	if w, ok := b.some(i); ok && b.Below(3) == 0 {
		v = w
	}
	for range b.Below(4) {
		if b.Below(2) == 0 {
			b.put(i, ssa.Ins{Op: ssa.Get, Text: b.One("x", "y"), Args: []int{v}})
		} else {
			b.put(i, ssa.Ins{Op: ssa.Set, Text: b.One("x", "y"), Args: append([]int{v}, b.take(i, 1)...)})
		}
	}
}

func names() []string { return []string{"v0", "v1", "v2"} }

func (b *builder) variable(i int) {
	if b.Below(2) == 0 {
		b.put(i, ssa.Ins{Op: ssa.Load, Text: b.One(names()...)})
		return
	}
	b.store(i, b.One(names()...))
	if b.Below(4) > 0 {
		// Nobody asks for what the variable had.
		b.made[i] = b.made[i][:len(b.made[i])-1]
	}
}

func (b *builder) store(i int, name string) {
	b.put(i, ssa.Ins{Op: ssa.Store, Text: name, Args: b.take(i, 1), Type: b.typ()})
}

// phis gives all phis their arguments; one for which nothing is there becomes a const.
func (b *builder) phis() {
	for i := range b.f.Blocks {
		for j := range b.f.Blocks[i].Ins {
			x := &b.f.Blocks[i].Ins[j]
			if x.Op != ssa.Phi {
				continue
			}
			for _, p := range b.preds[i] {
				v, ok := b.some(p)
				if !ok {
					v = b.put(p, b.constant())
					x = &b.f.Blocks[i].Ins[j]
				}
				x.Args = append(x.Args, v)
			}
		}
	}
}

// Program returns a program whose functions call each other, with the entities A and B that provide T.
func (m *Maker) Program(funcs int) ssa.Program {
	p := ssa.Program{Entities: Entities()}
	names := []string{"A.m", "B.m", "A.n", "f", "g", "h"}
	for i := range min(funcs, len(names)) {
		f := m.Func(names[i], 1+m.Below(2))
		m.Targets = append(m.Targets, f)
		p.Funcs = append(p.Funcs, f)
	}
	m.Targets = nil
	return p
}

// Entities returns those of Program.
func Entities() []api.Entity {
	t := []api.Type{{Kind: api.TypeName, Name: "T", Cap: api.Ref}}
	method := func(name string) []api.Method {
		return []api.Method{{Kind: api.Fun, Name: name, Cap: api.Box}}
	}
	return []api.Entity{
		{Kind: api.Interface, Name: "Any", Cap: api.Tag},
		{Kind: api.Trait, Name: "T", Cap: api.Ref, Methods: method("m")},
		{Kind: api.Class, Name: "A", Cap: api.Ref, Provides: t, Methods: slices.Concat(method("m"), method("n"))},
		{Kind: api.Class, Name: "B", Cap: api.Ref, Provides: t, Methods: method("m")},
	}
}
