package witness

import (
	"slices"

	"hackamore/blocks"
	"hackamore/ssa"
	"hackamore/walk"
)

// edge is a way from a block, by its index among those of To.
type edge struct{ from, way int }

// edges returns the edges to each block, in order.
func (g *page) edges() [][]edge {
	l := make([][]edge, len(g.f.Blocks))
	for i, b := range g.f.Blocks {
		for way, to := range b.End.To {
			l[to] = append(l[to], edge{i, way})
		}
	}
	return l
}

// coming has the arguments of phis, by their Results, for each edge.
type coming map[int]map[edge]int

// gather returns what all phis get by their edges.
func (g *page) gather() coming {
	c := make(coming)
	for i, l := range g.edges() {
		for _, x := range g.f.Blocks[i].Ins {
			if x.Op != ssa.Phi {
				break
			}
			c[x.Result] = make(map[edge]int)
			for k, e := range l {
				c[x.Result][e] = x.Args[k]
			}
		}
	}
	return c
}

// restore gives the phis the arguments that they had, in the order of their new edges; was tells which edge one was.
func (g *page) restore(c coming, was func(e edge) edge) {
	for i, l := range g.edges() {
		for j := range g.f.Blocks[i].Ins {
			x := &g.f.Blocks[i].Ins[j]
			args, ok := c[x.Result]
			if x.Op != ssa.Phi || !ok {
				continue
			}
			x.Args = nil
			for _, e := range l {
				v, ok := args[was(e)]
				must(ok)
				x.Args = append(x.Args, v)
			}
		}
	}
}

// rearrange lets blocks stand in a new order, some of which may be gone, and returns the index that each one had.
func (g *page) rearrange(order []int) []int {
	number := make(map[int]int)
	var l []ssa.Block
	for i, old := range order {
		number[old] = i
		l = append(l, g.f.Blocks[old])
	}
	for i := range l {
		for j, to := range l[i].End.To {
			l[i].End.To[j] = number[to]
		}
	}
	g.f.Blocks = l
	return order
}

// reached returns the blocks to which there is a way, in order.
func (g *page) reached() []int {
	met := make([]bool, len(g.f.Blocks))
	work := []int{0}
	for len(work) > 0 {
		b := work[len(work)-1]
		work = work[:len(work)-1]
		if !met[b] {
			met[b] = true
			work = append(work, g.f.Blocks[b].End.To...)
		}
	}
	var l []int
	for b, is := range met {
		if is {
			l = append(l, b)
		}
	}
	return l
}

func (g *page) isBlock(a int) bool { return a >= 0 && a < len(g.f.Blocks) }

// branch: one way alone is gone, or both are alike.
func (g *page) branch(a, b int) {
	must(g.isBlock(a) && b >= 0 && b <= 1)
	end := &g.f.Blocks[a].End
	must(end.Kind == ssa.Branch)
	c := g.gather()
	known := g.operand(end.Args[0], ssa.Const)
	if known == nil || !walk.SameValue(known.Lit, truth(b == 0)) {
		must(b == 0 && end.To[0] == end.To[1])
		for _, x := range g.f.Blocks[end.To[0]].Ins {
			if x.Op == ssa.Phi {
				must(c[x.Result][edge{a, 0}] == c[x.Result][edge{a, 1}])
			}
		}
	}
	*end = ssa.End{Kind: ssa.Jump, To: []int{end.To[b]}}
	had := g.rearrange(g.reached())
	g.restore(c, func(e edge) edge {
		if e.from = had[e.from]; e.from == a {
			e.way = b
		}
		return e
	})
}

// join: a block is entered from one other alone, which goes nowhere else.
func (g *page) join(a int) {
	must(g.isBlock(a))
	end := g.f.Blocks[a].End
	must(end.Kind == ssa.Jump && end.To[0] != a && len(g.edges()[end.To[0]]) == 1)
	to := end.To[0]
	rest := g.f.Blocks[to].Ins
	for len(rest) > 0 && rest[0].Op == ssa.Phi {
		g.replace(rest[0].Result, rest[0].Args[0])
		rest = rest[1:]
	}
	c := g.gather()
	first := &g.f.Blocks[a]
	first.Ins = append(first.Ins, rest...)
	first.End = g.f.Blocks[to].End
	var order []int
	for i := range g.f.Blocks {
		if i != to {
			order = append(order, i)
		}
	}
	had := g.rearrange(order)
	g.restore(c, func(e edge) edge {
		if e.from = had[e.from]; e.from == a {
			e.from = to
		}
		return e
	})
}

// inline: a function stands in the place of a call.
func (g *page) inline(a int) {
	call, at := g.instruction(a)
	must(call.Op == ssa.Direct && call.Text != g.f.Name)
	callee := blocks.Func(g.Funcs[g.numbers[call.Text]])
	must(mayBeInlined(&callee))
	rename(&callee, call.Args, blocks.Top(g.f))
	c := g.gather()
	here := &g.f.Blocks[at.Block]
	first, behind := at.Block+1, at.Block+1+len(callee.Blocks)
	phi := ssa.Ins{Op: ssa.Phi, Result: a, Type: call.Type}
	for i := range callee.Blocks {
		end := &callee.Blocks[i].End
		if end.Kind == ssa.Return {
			phi.Args = append(phi.Args, end.Args[0])
			*end = ssa.End{Kind: ssa.Jump, To: []int{behind}}
			continue
		}
		for j := range end.To {
			end.To[j] += first
		}
	}
	last := ssa.Block{Ins: append([]ssa.Ins{phi}, here.Ins[at.At+1:]...), End: here.End}
	here.Ins, here.End = here.Ins[:at.At:at.At], ssa.End{Kind: ssa.Jump, To: []int{first}}
	more := len(callee.Blocks) + 1
	shift := func(l []int) {
		for i := range l {
			if l[i] > at.Block {
				l[i] += more
			}
		}
	}
	for i := range g.f.Blocks {
		if i != at.Block {
			shift(g.f.Blocks[i].End.To)
		}
	}
	shift(last.End.To)
	g.f.Blocks = slices.Insert(g.f.Blocks, first, append(callee.Blocks, last)...)
	g.restore(c, func(e edge) edge {
		switch {
		case e.from == behind:
			e.from = at.Block
		case e.from > behind:
			e.from -= more
		}
		return e
	})
}

// mayBeInlined reports whether a function may stand in the place of a call.
func mayBeInlined(f *ssa.Func) bool {
	returns := false
	for _, b := range f.Blocks {
		if b.End.Kind == ssa.Error {
			return false
		}
		returns = returns || b.End.Kind == ssa.Return
	}
	for _, x := range blocks.All(f) {
		if x.Op == ssa.Load || x.Op == ssa.Store {
			return false
		}
	}
	return returns && !f.Partial
}

// rename gives the parameters of a function other values, and all others new numbers, in order.
func rename(f *ssa.Func, params []int, next int) {
	numbers := make(map[int]int)
	for i, v := range params {
		numbers[i] = v
	}
	for _, x := range blocks.All(f) {
		numbers[x.Result] = next
		x.Result = next
		next++
	}
	for l := range blocks.Lists(f) {
		for i, v := range *l {
			(*l)[i] = numbers[v]
		}
	}
}
