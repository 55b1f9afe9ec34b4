package ssa

import (
	"math/bits"
	"slices"
)

// graph says of the blocks of a function whose shape is right what comes ahead of what. Of blocks that nothing reaches it says only their predecessors.
type graph struct {
	blocks []Block
	preds  [][]int
	order  []int // the blocks that are reached, in reverse postorder
	rank   []int // the place of each block in it; -1 for those that are not reached
	over   []int // immediate dominators; -1 for the first block
	below  [][]int
	in     []int // when a walk over the tree of dominators comes to a block
	out    []int // when it has left it
}

func newGraph(blocks []Block) *graph {
	g := &graph{blocks: blocks, preds: predecessors(blocks)}
	g.walk()
	return g
}

func predecessors(blocks []Block) [][]int {
	preds := make([][]int, len(blocks))
	for i, b := range blocks {
		for _, to := range b.End.To {
			preds[to] = append(preds[to], i)
		}
	}
	return preds
}

// walk finds the order of the blocks.
func (g *graph) walk() {
	met := newSet(len(g.blocks))
	var visit func(b int)
	visit = func(b int) {
		met.add(b)
		for _, to := range g.blocks[b].End.To {
			if !met.has(to) {
				visit(to)
			}
		}
		g.order = append(g.order, b)
	}
	visit(0)
	slices.Reverse(g.order)
	g.rank = slices.Repeat([]int{-1}, len(g.blocks))
	for i, b := range g.order {
		g.rank[b] = i
	}
}

// dominate finds the dominators of a function all of whose blocks are reached, and walks over their tree.
func (g *graph) dominate() {
	g.over = slices.Repeat([]int{-1}, len(g.blocks))
rounds:
	for {
		known := true
		for _, b := range g.order[1:] {
			over := g.meeting(b)
			known = known && over == g.over[b]
			g.over[b] = over
		}
		if known {
			break rounds
		}
	}
	g.below = make([][]int, len(g.blocks))
	for b, over := range g.over {
		if over >= 0 {
			g.below[over] = append(g.below[over], b)
		}
	}
	g.in, g.out = make([]int, len(g.blocks)), make([]int, len(g.blocks))
	time := 0
	var visit func(b int)
	visit = func(b int) {
		g.in[b] = time
		for _, next := range g.below[b] {
			time++
			visit(next)
		}
		time++
		g.out[b] = time
	}
	visit(0)
}

// meeting returns where the ways to a block that are known so far meet last.
func (g *graph) meeting(b int) int {
	at := -1
	for _, p := range g.preds[b] {
		if p != 0 && g.over[p] < 0 {
			continue
		}
		if at < 0 {
			at = p
		}
		for at != p {
			if g.rank[at] > g.rank[p] {
				at = g.over[at]
			} else {
				p = g.over[p]
			}
		}
	}
	return at
}

func (g *graph) dominates(a, b int) bool { return g.in[a] <= g.in[b] && g.out[b] <= g.out[a] }

// frontiers returns the dominance frontier of each block.
func (g *graph) frontiers() [][]int {
	l := make([][]int, len(g.blocks))
	for a := range g.blocks {
		for b := range g.blocks {
			if a != b && g.dominates(a, b) {
				continue
			}
			if slices.ContainsFunc(g.preds[b], func(p int) bool { return g.dominates(a, p) }) {
				l[a] = append(l[a], b)
			}
		}
	}
	return l
}

// loops returns the heads of loops, and the blocks of each loop.
func (g *graph) loops() (heads []int, blocks [][]int) {
	for h := range g.blocks {
		within := newSet(len(g.blocks))
		within.add(h)
		var work []int
		for _, p := range g.preds[h] {
			if g.dominates(h, p) {
				work = append(work, p)
			}
		}
		if len(work) == 0 {
			continue
		}
		for len(work) > 0 {
			b := work[len(work)-1]
			work = work[:len(work)-1]
			if !within.has(b) {
				within.add(b)
				work = append(work, g.preds[b]...)
			}
		}
		heads, blocks = append(heads, h), append(blocks, within.list())
	}
	return heads, blocks
}

// set is a set of blocks: bits in words.
type set []uint64

func newSet(n int) set { return make(set, (n+63)/64) }

func (s set) add(n int) { s[n/64] |= 1 << (n % 64) }

func (s set) has(n int) bool { return s[n/64]>>(n%64)&1 == 1 }

// list returns the elements of a set, ascending.
func (s set) list() []int {
	var l []int
	for i, w := range s {
		for ; w != 0; w &= w - 1 {
			l = append(l, 64*i+bits.TrailingZeros64(w))
		}
	}
	return l
}
