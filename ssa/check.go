package ssa

import (
	"slices"

	"hackamore/api"
)

// maker says where a value is made: in a block, ahead of the instruction At; a phi, and the Result of a try, at the beginning.
type maker struct{ block, at int }

// parameters are made ahead of all blocks.
const ahead = -1

// checked returns the graph of a function that is right, or its error, and where it is.
func checked(f Func) (*graph, Fault, api.Errno) {
	if at, e := shape(&f); e != api.OK {
		return nil, at, e
	}
	g := newGraph(f.Blocks)
	if i := slices.Index(g.rank, -1); i >= 0 {
		return nil, Fault{Block: i}, ErrBlock
	}
	for i, b := range f.Blocks {
		if b.End.Kind == Try && len(g.preds[b.End.To[0]]) > 1 {
			return nil, Fault{Block: i, At: len(b.Ins)}, ErrBlock
		}
	}
	g.dominate()
	if at, e := g.uses(&f); e != api.OK {
		return nil, at, e
	}
	return g, Fault{}, api.OK
}

// makers returns where each value of a function is made.
func makers(f *Func) map[int]maker {
	made := make(map[int]maker)
	for i := range f.Params {
		made[i] = maker{ahead, 0}
	}
	for at, x := range f.all() {
		switch b := f.Blocks[at.Block]; {
		case at.At == len(b.Ins):
			made[x.Result] = maker{b.End.To[0], 0}
		case x.Op == Phi:
			made[x.Result] = maker{at.Block, 0}
		default:
			made[x.Result] = maker{at.Block, at.At + 1}
		}
	}
	return made
}

// uses returns the first error of a value that is not there where it is used, and of a phi that does not fit.
func (g *graph) uses(f *Func) (Fault, api.Errno) {
	made := makers(f)
	isThere := func(v, block, at int) bool {
		m, ok := made[v]
		switch {
		case !ok:
			return false
		case m.block == ahead:
			return true
		case m.block == block:
			return m.at <= at
		}
		return g.dominates(m.block, block)
	}
	for i := range f.Blocks {
		b := &f.Blocks[i]
		here := func(l []int, at int) bool {
			return !slices.ContainsFunc(l, func(v int) bool { return !isThere(v, i, at) })
		}
		for j, x := range b.Ins {
			if x.Op != Phi {
				if !here(x.Args, j) {
					return Fault{Block: i, At: j}, ErrUse
				}
				continue
			}
			if len(x.Args) != len(g.preds[i]) {
				return Fault{Block: i, At: j}, ErrPhi
			}
			for k, p := range g.preds[i] {
				if !isThere(x.Args[k], p, len(f.Blocks[p].Ins)) {
					return Fault{Block: i, At: j}, ErrUse
				}
			}
		}
		if n := len(b.Ins); !here(b.End.Args, n) || !here(b.End.Call.Args, n) {
			return Fault{Block: i, At: n}, ErrUse
		}
	}
	return Fault{}, api.OK
}
