// Package blocks goes through functions of the intermediate form, and copies them, for the layers that change them.
package blocks

import (
	"iter"
	"slices"

	"hackamore/ssa"
	"hackamore/walk"
)

// Place is where an instruction stands: in a block, by its index there; the Call of a try behind all others.
type Place struct{ Block, At int }

// All hands on the instructions of a function with their places, the Calls of tries among them.
func All(f *ssa.Func) iter.Seq2[Place, *ssa.Ins] {
	return func(yield func(Place, *ssa.Ins) bool) {
		for i := range f.Blocks {
			b := &f.Blocks[i]
			for j := range b.Ins {
				if !yield(Place{i, j}, &b.Ins[j]) {
					return
				}
			}
			if b.End.Kind == ssa.Try && !yield(Place{i, len(b.Ins)}, &b.End.Call) {
				return
			}
		}
	}
}

// Lists hands on all lists of Args of a function.
func Lists(f *ssa.Func) iter.Seq[*[]int] {
	return func(yield func(*[]int) bool) {
		for _, x := range All(f) {
			if !yield(&x.Args) {
				return
			}
		}
		for i := range f.Blocks {
			if !yield(&f.Blocks[i].End.Args) {
				return
			}
		}
	}
}

// Size returns how many instructions a function has, the Calls of tries among them.
func Size(f *ssa.Func) int {
	n := 0
	for range All(f) {
		n++
	}
	return n
}

// Top returns the first number above all values of a function.
func Top(f *ssa.Func) int {
	n := len(f.Params)
	for _, x := range All(f) {
		n = max(n, x.Result+1)
	}
	return n
}

// Preds returns the predecessors of the blocks of a function.
func Preds(f *ssa.Func) [][]int {
	preds := make([][]int, len(f.Blocks))
	for i, b := range f.Blocks {
		for _, to := range b.End.To {
			preds[to] = append(preds[to], i)
		}
	}
	return preds
}

// Ins returns an instruction with memory of its own.
func Ins(x ssa.Ins) ssa.Ins {
	x.Type, x.Args, x.Lit = walk.Type(x.Type), slices.Clone(x.Args), walk.Value(x.Lit)
	return x
}

// Func returns a function with memory of its own.
func Func(f ssa.Func) ssa.Func {
	f.Params, f.Result, f.Blocks = walk.Types(f.Params), walk.Type(f.Result), slices.Clone(f.Blocks)
	for i := range f.Blocks {
		b := &f.Blocks[i]
		b.Ins = slices.Clone(b.Ins)
		for j, x := range b.Ins {
			b.Ins[j] = Ins(x)
		}
		b.End.Args, b.End.To, b.End.Call = slices.Clone(b.End.Args), slices.Clone(b.End.To), Ins(b.End.Call)
	}
	return f
}

// Program returns a program with memory of its own.
func Program(p ssa.Program) ssa.Program {
	p.Entities, p.Funcs = walk.Program(p.Entities), slices.Clone(p.Funcs)
	for i, f := range p.Funcs {
		p.Funcs[i] = Func(f)
	}
	return p
}
