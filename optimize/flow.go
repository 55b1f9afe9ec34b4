package optimize

import (
	"cmp"
	"slices"

	"hackamore/blocks"
	"hackamore/ssa"
	"hackamore/walk"
)

// decided returns the one way that a branch goes, if this is known.
func (e *editor) decided(block int) int {
	end := &e.f.Blocks[block].End
	if end.Kind != ssa.Branch {
		return noneOfThem
	}
	if c := e.operand(end.Args[0], ssa.Const); c != nil {
		for way := range 2 {
			if walk.SameValue(c.Lit, truth(way == 0)) {
				return way
			}
		}
	}
	if end.To[0] != end.To[1] {
		return noneOfThem
	}
	k := e.edge(block, 0)
	for _, x := range e.f.Blocks[end.To[0]].Ins {
		if x.Op == ssa.Phi && x.Args[k] != x.Args[k+1] {
			return noneOfThem
		}
	}
	return 0
}

// edge returns the index of a way out of a block among those to its target.
func (e *editor) edge(block, way int) int {
	end := e.f.Blocks[block].End
	k := slices.Index(blocks.Preds(e.f)[end.To[way]], block)
	if way == 1 && end.To[0] == end.To[1] {
		k++
	}
	return k
}

// cut lets a branch go one way alone. Blocks that nothing reaches any more go.
func (e *editor) cut(block, way int) {
	k := e.edge(block, 1-way)
	end := &e.f.Blocks[block].End
	other := e.f.Blocks[end.To[1-way]].Ins
	for i := range other {
		if x := &other[i]; x.Op == ssa.Phi {
			x.Args = slices.Delete(x.Args, k, k+1)
		}
	}
	*end = ssa.End{Kind: ssa.Jump, To: []int{end.To[way]}}
	e.prune()
}

// prune takes out the blocks that nothing reaches.
func (e *editor) prune() {
	met := make([]bool, len(e.f.Blocks))
	var visit func(b int)
	visit = func(b int) {
		met[b] = true
		for _, to := range e.f.Blocks[b].End.To {
			if !met[to] {
				visit(to)
			}
		}
	}
	visit(0)
	preds := blocks.Preds(e.f)
	number := make([]int, len(met))
	var left []ssa.Block
	for i, b := range e.f.Blocks {
		if !met[i] {
			continue
		}
		number[i] = len(left)
		for j := range b.Ins {
			x := &b.Ins[j]
			if x.Op != ssa.Phi {
				continue
			}
			k := -1
			x.Args = slices.DeleteFunc(x.Args, func(int) bool {
				k++
				return !met[preds[i][k]]
			})
		}
		left = append(left, b)
	}
	e.f.Blocks = left
	e.renumber(func(to int) int { return number[to] })
}

// renumber gives all targets of ends other numbers.
func (e *editor) renumber(number func(to int) int) {
	for i := range e.f.Blocks {
		l := e.f.Blocks[i].End.To
		for j, to := range l {
			l[j] = number(to)
		}
	}
}

// next returns the block that may become a part of another one.
func (e *editor) next(block int) int {
	end := e.f.Blocks[block].End
	if end.Kind != ssa.Jump || end.To[0] == block || len(blocks.Preds(e.f)[end.To[0]]) > 1 {
		return noneOfThem
	}
	return end.To[0]
}

// join makes a block a part of the one that jumps to it.
func (e *editor) join(block, to int) {
	rest := e.f.Blocks[to].Ins
	for len(rest) > 0 && rest[0].Op == ssa.Phi {
		e.names[rest[0].Result] = e.find(rest[0].Args[0])
		rest = rest[1:]
	}
	e.move(block, to)
	first := &e.f.Blocks[block]
	first.Ins, first.End = append(first.Ins, rest...), e.f.Blocks[to].End
	e.f.Blocks = slices.Delete(e.f.Blocks, to, to+1)
	e.renumber(func(n int) int {
		if n > to {
			n--
		}
		return n
	})
}

// move puts the arguments of phis into the order that they have when the ways out of a block come from another one.
func (e *editor) move(block, from int) {
	preds := blocks.Preds(e.f)
	var done []int
	for _, target := range e.f.Blocks[from].End.To {
		if slices.Contains(done, target) {
			continue
		}
		done = append(done, target)
		order := make([]int, len(preds[target]))
		place := func(k int) int {
			if p := preds[target][k]; p != from {
				return p
			}
			return block
		}
		for k := range order {
			order[k] = k
		}
		slices.SortStableFunc(order, func(k, l int) int { return cmp.Compare(place(k), place(l)) })
		for i := range e.f.Blocks[target].Ins {
			x := &e.f.Blocks[target].Ins[i]
			if x.Op != ssa.Phi {
				break
			}
			var args []int
			for _, k := range order {
				args = append(args, x.Args[k])
			}
			x.Args = args
		}
	}
}

// inline puts functions in the place of direct calls.
func (e *editor) inline() {
	for i := 0; i < len(e.f.Blocks); i++ {
		for j := range e.f.Blocks[i].Ins {
			x := e.f.Blocks[i].Ins[j]
			if x.Op != ssa.Direct || !e.mayInline(x.Text) {
				continue
			}
			e.record(Step{Kind: StepInline, A: x.Result})
			callee := blocks.Func(e.Funcs[e.numbers[x.Text]])
			e.splice(i, j, &callee)
			e.begin()
			i += len(callee.Blocks)
			break
		}
	}
}

// mayInline reports whether a function is put in the place of calls in this one.
func (e *editor) mayInline(name string) bool {
	number := e.numbers[name]
	f := &e.Funcs[number]
	size := blocks.Size(f)
	if number == e.number || f.Partial || size > maxCallee || size+blocks.Size(e.f) > maxCaller {
		return false
	}
	if len(f.Blocks)+len(e.f.Blocks)+1 > maxBlocks || blocks.Top(e.f)+size-1 > maxValue {
		return false
	}
	for _, x := range blocks.All(f) {
		if x.Op == ssa.Direct || x.Op == ssa.Load || x.Op == ssa.Store {
			return false
		}
	}
	returns := func(b ssa.Block) bool { return b.End.Kind == ssa.Return }
	fails := func(b ssa.Block) bool { return b.End.Kind == ssa.Error }
	return slices.ContainsFunc(f.Blocks, returns) && !slices.ContainsFunc(f.Blocks, fails)
}

// splice puts a function in the place of a call: its blocks come behind the one of the call, and then one with the rest of that.
func (e *editor) splice(block, at int, callee *ssa.Func) {
	call := e.f.Blocks[block].Ins[at]
	adopt(callee, call.Args, blocks.Top(e.f))
	first, behind := block+1, block+1+len(callee.Blocks)
	e.renumber(func(to int) int {
		if to > block {
			to += len(callee.Blocks) + 1
		}
		return to
	})
	here := &e.f.Blocks[block]
	last := ssa.Block{Ins: []ssa.Ins{{Op: ssa.Phi, Result: call.Result, Type: call.Type}}, End: here.End}
	last.Ins = append(last.Ins, here.Ins[at+1:]...)
	here.Ins, here.End = here.Ins[:at:at], ssa.End{Kind: ssa.Jump, To: []int{first}}
	for i := range callee.Blocks {
		end := &callee.Blocks[i].End
		if end.Kind == ssa.Return {
			last.Ins[0].Args = append(last.Ins[0].Args, end.Args[0])
			*end = ssa.End{Kind: ssa.Jump, To: []int{behind}}
			continue
		}
		for j := range end.To {
			end.To[j] += first
		}
	}
	e.f.Blocks = slices.Insert(e.f.Blocks, first, append(slices.Clone(callee.Blocks), last)...)
}

// adopt gives the values of a function new numbers, in order; its parameters become the arguments.
func adopt(callee *ssa.Func, args []int, next int) {
	numbers := make(map[int]int)
	for i, v := range args {
		numbers[i] = v
	}
	for _, x := range blocks.All(callee) {
		numbers[x.Result] = next
		x.Result = next
		next++
	}
	for l := range blocks.Lists(callee) {
		for i, v := range *l {
			(*l)[i] = numbers[v]
		}
	}
}
