package ssa

import (
	"slices"

	"hackamore/api"
)

// variable is a local variable of a function: the blocks in which it is stored, and those at whose beginnings it is needed.
type variable struct {
	name   string
	typ    api.Type // of its first store
	stores []int
	needed set
}

// merge is a phi of a variable that is put into a block.
type merge struct {
	of     *variable
	result int
	args   []int
}

// promoter turns the local variables of a function into values.
type promoter struct {
	*graph
	f         *Func
	used      map[int]bool // the values that are Args of something
	variables []*variable
	merges    [][]*merge // of each block
	names     map[int]int
}

// Promote returns a function without Loads and Stores of local variables.
func Promote(f Func) (Func, api.Errno) {
	g, _, e := checked(f)
	if e != api.OK {
		return Func{}, e
	}
	c := f.copied()
	p := &promoter{graph: g, f: &c, used: make(map[int]bool), merges: make([][]*merge, len(f.Blocks)), names: make(map[int]int)}
	for _, l := range c.lists() {
		for _, v := range *l {
			p.used[v] = true
		}
	}
	p.find()
	for _, v := range p.variables {
		if v.needed.has(0) {
			return Func{}, ErrUse
		}
	}
	p.place()
	p.rename()
	p.rewrite()
	return c.cleaned()
}

// reads reports whether an instruction asks for the value that a variable has.
func (p *promoter) reads(x *Ins) bool { return x.Op == Load || x.Op == Store && p.used[x.Result] }

// find finds the variables, in the order of their first names, and where they are needed.
func (p *promoter) find() {
	known := make(map[string]*variable)
	asked := make(map[string][]int) // blocks that read ahead of their stores
	for i, b := range p.blocks {
		stored := make(map[string]bool)
		for j := range b.Ins {
			x := &b.Ins[j]
			if x.Op != Load && x.Op != Store {
				continue
			}
			v := known[x.Text]
			if v == nil {
				v = &variable{name: x.Text}
				known[x.Text] = v
				p.variables = append(p.variables, v)
			}
			if p.reads(x) && !stored[x.Text] {
				asked[x.Text] = append(asked[x.Text], i)
			}
			if x.Op == Load || stored[x.Text] {
				continue
			}
			stored[x.Text] = true
			if len(v.stores) == 0 {
				v.typ = x.Type
			}
			v.stores = append(v.stores, i)
		}
	}
	for _, v := range p.variables {
		v.needed = p.need(v, asked[v.name])
	}
}

// need returns the blocks at whose beginnings a variable is needed.
func (p *promoter) need(v *variable, work []int) set {
	needed := newSet(len(p.blocks))
	for len(work) > 0 {
		b := work[len(work)-1]
		work = work[:len(work)-1]
		if needed.has(b) {
			continue
		}
		needed.add(b)
		for _, q := range p.preds[b] {
			if !slices.Contains(v.stores, q) {
				work = append(work, q)
			}
		}
	}
	return needed
}

// place puts phis where ways with different stores meet.
func (p *promoter) place() {
	next := p.f.values()
	frontiers := p.frontiers()
	for _, v := range p.variables {
		meets := newSet(len(p.blocks))
		work := slices.Clone(v.stores)
		for len(work) > 0 {
			b := work[len(work)-1]
			work = work[:len(work)-1]
			for _, to := range frontiers[b] {
				if !meets.has(to) {
					meets.add(to)
					work = append(work, to)
				}
			}
		}
		for _, b := range meets.list() {
			if v.needed.has(b) {
				p.merges[b] = append(p.merges[b], &merge{v, next, make([]int, len(p.preds[b]))})
				next++
			}
		}
	}
}

// rename walks over the tree of dominators, with the values that the variables have on a stack each.
func (p *promoter) rename() {
	stacks := make(map[string][]int)
	push := func(name string, v int) { stacks[name] = append(stacks[name], v) }
	var visit func(b int)
	visit = func(b int) {
		var pushed []string
		for _, m := range p.merges[b] {
			push(m.of.name, m.result)
			pushed = append(pushed, m.of.name)
		}
		for i := range p.blocks[b].Ins {
			x := &p.blocks[b].Ins[i]
			stack := stacks[x.Text]
			if x.Op != Load && x.Op != Store {
				continue
			}
			if p.reads(x) {
				p.names[x.Result] = stack[len(stack)-1]
			}
			if x.Op == Store {
				push(x.Text, p.named(x.Args[0]))
				pushed = append(pushed, x.Text)
			}
		}
		p.hand(b, stacks)
		for _, next := range p.below[b] {
			visit(next)
		}
		for _, name := range pushed {
			stacks[name] = stacks[name][:len(stacks[name])-1]
		}
	}
	visit(0)
}

// named returns the value that stands for another one.
func (p *promoter) named(v int) int {
	if n, ok := p.names[v]; ok {
		return n
	}
	return v
}

// hand gives the phis behind a block what the variables have at its end.
func (p *promoter) hand(b int, stacks map[string][]int) {
	for _, to := range p.blocks[b].End.To {
		for _, m := range p.merges[to] {
			stack := stacks[m.of.name]
			for k, q := range p.preds[to] {
				if q == b {
					m.args[k] = stack[len(stack)-1]
				}
			}
		}
	}
}

// rewrite puts the phis into the blocks, takes out loads and stores, and gives all Args their names.
func (p *promoter) rewrite() {
	for i := range p.f.Blocks {
		b := &p.f.Blocks[i]
		var left []Ins
		first := slices.IndexFunc(b.Ins, func(x Ins) bool { return x.Op != Phi })
		if first < 0 {
			first = len(b.Ins)
		}
		left = append(left, b.Ins[:first]...)
		for _, m := range p.merges[i] {
			left = append(left, Ins{Op: Phi, Result: m.result, Type: m.of.typ, Args: m.args})
		}
		for _, x := range b.Ins[first:] {
			if x.Op != Load && x.Op != Store {
				left = append(left, x)
			}
		}
		b.Ins = left
	}
	for _, l := range p.f.lists() {
		for i, v := range *l {
			(*l)[i] = p.named(v)
		}
	}
}
