package ssa

import (
	"iter"
	"slices"

	"hackamore/api"
	"hackamore/walk"
)

// lists hands on all lists of Args, with the blocks in which they stand.
func (f *Func) lists() iter.Seq2[int, *[]int] {
	return func(yield func(int, *[]int) bool) {
		for i := range f.Blocks {
			b := &f.Blocks[i]
			for j := range b.Ins {
				if !yield(i, &b.Ins[j].Args) {
					return
				}
			}
			if !yield(i, &b.End.Args) || !yield(i, &b.End.Call.Args) {
				return
			}
		}
	}
}

// copied returns a function with memory of its own.
func (f *Func) copied() Func {
	c := *f
	c.Params, c.Result = walk.Types(f.Params), walk.Type(f.Result)
	c.Blocks = slices.Clone(f.Blocks)
	for i := range c.Blocks {
		b := &c.Blocks[i]
		b.Ins = slices.Clone(b.Ins)
		for j := range b.Ins {
			b.Ins[j] = b.Ins[j].copied()
		}
		b.End.Args, b.End.To = slices.Clone(b.End.Args), slices.Clone(b.End.To)
		b.End.Call = b.End.Call.copied()
	}
	return c
}

func (x Ins) copied() Ins {
	x.Type, x.Args, x.Lit = walk.Type(x.Type), slices.Clone(x.Args), walk.Value(x.Lit)
	return x
}

// Clean returns a function without blocks that nothing reaches, with its values numbered in order.
func Clean(f Func) (Func, api.Errno) {
	if _, e := shape(&f); e != api.OK {
		return Func{}, e
	}
	return f.cleaned()
}

// cleaned returns the cleaned function, or its error, of one whose values may be too great.
func (f *Func) cleaned() (Func, api.Errno) {
	c := f.copied()
	c.prune()
	c.renumber()
	if _, _, e := checked(c); e != api.OK {
		return Func{}, e
	}
	return c, api.OK
}

// prune takes out the blocks that nothing reaches.
func (f *Func) prune() {
	g := newGraph(f.Blocks)
	isGone := func(b int) bool { return g.rank[b] < 0 }
	number := make([]int, len(f.Blocks))
	var left []Block
	for i, b := range f.Blocks {
		if isGone(i) {
			continue
		}
		number[i] = len(left)
		for j := range b.Ins {
			x := &b.Ins[j]
			if x.Op != Phi || len(x.Args) != len(g.preds[i]) {
				continue
			}
			var args []int
			for k, p := range g.preds[i] {
				if !isGone(p) {
					args = append(args, x.Args[k])
				}
			}
			x.Args = args
		}
		left = append(left, b)
	}
	for i := range left {
		for j, to := range left[i].End.To {
			left[i].End.To[j] = number[to]
		}
	}
	f.Blocks = left
}

// numbers returns the number of each value in the order of Clean.
func (f *Func) numbers() map[int]int {
	numbers := make(map[int]int)
	for i := range f.Params {
		numbers[i] = i
	}
	for _, x := range f.all() {
		numbers[x.Result] = len(numbers)
	}
	return numbers
}

// renumber gives the values of a function the numbers in their order. What nothing makes gets one that nothing makes.
func (f *Func) renumber() {
	numbers := f.numbers()
	for _, l := range f.lists() {
		for i, v := range *l {
			(*l)[i] = numberOf(numbers, v, len(numbers))
		}
	}
	for _, x := range f.all() {
		x.Result = numbers[x.Result]
	}
}

func numberOf(numbers map[int]int, v, missing int) int {
	if n, ok := numbers[v]; ok {
		return n
	}
	return missing
}

// Equal reports whether two functions are equal but for the numbers of their values.
func Equal(f, g Func) bool {
	if _, e := shape(&f); e != api.OK {
		return false
	}
	if _, e := shape(&g); e != api.OK {
		return false
	}
	a, b := f.numbers(), g.numbers()
	alike := func(v, w int) bool { return numberOf(a, v, -1) == numberOf(b, w, -1) }
	areAlike := func(x, y Ins) bool { return x.equals(y, alike) }
	return f.Name == g.Name && f.Partial == g.Partial && walk.SameType(f.Result, g.Result) && slices.EqualFunc(f.Params, g.Params, walk.SameType) &&
		slices.EqualFunc(f.Blocks, g.Blocks, func(x, y Block) bool {
			return slices.EqualFunc(x.Ins, y.Ins, areAlike) && x.End.Kind == y.End.Kind && slices.EqualFunc(x.End.Args, y.End.Args, alike) &&
				slices.Equal(x.End.To, y.End.To) && (x.End.Kind != Try || areAlike(x.End.Call, y.End.Call))
		})
}

// equals reports whether two instructions are equal in all fields, with their values compared by a function.
func (x Ins) equals(y Ins, alike func(v, w int) bool) bool {
	return x.Op == y.Op && x.Text == y.Text && x.Name == y.Name && x.N == y.N && x.Flag == y.Flag && alike(x.Result, y.Result) &&
		slices.EqualFunc(x.Args, y.Args, alike) && walk.SameType(x.Type, y.Type) && walk.SameValue(x.Lit, y.Lit)
}
