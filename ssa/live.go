package ssa

import "hackamore/api"

// Live returns the values that are needed at the beginning of each block.
func Live(f Func) ([][]int, api.Errno) {
	g, _, e := checked(f)
	if e != api.OK {
		return nil, e
	}
	needed := g.needs(&f)
	made := makers(&f)
	live := make([][]int, len(f.Blocks))
	for v := range f.values() {
		m, ok := made[v]
		if !ok {
			continue
		}
		for _, b := range g.reaching(needed[v], m.block).list() {
			live[b] = append(live[b], v)
		}
	}
	return live, api.OK
}

// values returns 1 more than the greatest value that there is.
func (f *Func) values() int {
	n := len(f.Params)
	for _, x := range f.all() {
		n = max(n, x.Result+1)
	}
	return n
}

// needs returns the blocks in which each value is used; an argument of a phi is used in the block ahead.
func (g *graph) needs(f *Func) map[int][]int {
	needed := make(map[int][]int)
	use := func(l []int, b int) {
		for _, v := range l {
			needed[v] = append(needed[v], b)
		}
	}
	for i, b := range f.Blocks {
		for _, x := range b.Ins {
			if x.Op != Phi {
				use(x.Args, i)
				continue
			}
			for k, p := range g.preds[i] {
				use(x.Args[k:k+1], p)
			}
		}
		use(b.End.Args, i)
		use(b.End.Call.Args, i)
	}
	return needed
}

// reaching returns the blocks from whose beginnings there are ways to some blocks that do not come to the one where a value is made.
func (g *graph) reaching(work []int, maker int) set {
	l := newSet(len(g.blocks))
	for len(work) > 0 {
		b := work[len(work)-1]
		work = work[:len(work)-1]
		if b == maker || l.has(b) {
			continue
		}
		l.add(b)
		work = append(work, g.preds[b]...)
	}
	return l
}

// Uses returns how often each value is used.
func Uses(f Func) ([]int, api.Errno) {
	if _, _, e := checked(f); e != api.OK {
		return nil, e
	}
	uses := make([]int, f.values())
	for _, l := range f.lists() {
		for _, v := range *l {
			uses[v]++
		}
	}
	return uses, api.OK
}
