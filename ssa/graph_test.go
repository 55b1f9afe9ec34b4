package ssa_test

import (
	"slices"
	"testing"

	"hackamore/api"
	"hackamore/graphs"
	"hackamore/ssa"
)

// TestExamples: those of the chapter.
func TestExamples(t *testing.T) {
	f := diamond()
	if l, e := ssa.Dominators(f); e != api.OK || !slices.Equal(l, []int{-1, 0, 0, 0}) {
		t.Errorf("immediate dominators: %v", l)
	}
	if l, e := ssa.Frontier(f); e != api.OK || !alike(l, [][]int{nil, {3}, {3}, nil}) {
		t.Errorf("frontiers: %v", l)
	}
	g := function(block(branch(0, 1, 2)), block(jump(3), number(1, 1), text(ssa.Store, 2, "x", 1)), block(jump(3), number(3, 2), text(ssa.Store, 4, "x", 3)), block(returns(5), text(ssa.Load, 5, "x")))
	if h, e := ssa.Promote(g); e != api.OK || !alike(h, diamond()) {
		t.Errorf("Promote: %v, error %d", h, e)
	}
	end := function(block(returns(2), number(1, 0), number(2, 0)))
	s, e := ssa.Print([]ssa.Func{end})
	if want := "func xf 0:x:0:0 0 0:x:0:0\nblock\nconst 1 0:x:0:0 - x x 16:0:0:x 0 0\nconst 2 0:x:0:0 - x x 16:0:0:x 0 0\nreturn 2 -\n"; e != api.OK || s != want {
		t.Errorf("Print: %s", s)
	}
}

// TestGraphErrors: all functions with a function return its error, and nothing else; Dominates asks for its blocks behind it.
func TestGraphErrors(t *testing.T) {
	f := function(block(returns(9)))
	_, e1 := ssa.Preds(f)
	_, e2 := ssa.Order(f)
	_, e3 := ssa.Dominators(f)
	_, e4 := ssa.Dominates(f, -1, 0)
	_, e5 := ssa.Frontier(f)
	_, _, e6 := ssa.Loops(f)
	_, e7 := ssa.Live(f)
	_, e8 := ssa.Uses(f)
	g, e9 := ssa.Promote(f)
	h, e10 := ssa.Clean(f)
	for i, e := range []api.Errno{e1, e2, e3, e4, e5, e6, e7, e8, e9, e10} {
		if e != ssa.ErrUse {
			t.Errorf("%d: error %d", i, e)
		}
	}
	if !alike(g, ssa.Func{}) || !alike(h, ssa.Func{}) {
		t.Error("a function with an error")
	}
	for _, l := range [][2]int{{-1, 0}, {0, -1}, {4, 0}, {0, 4}, {1 << 40, -1 << 63}} {
		if is, e := ssa.Dominates(diamond(), l[0], l[1]); is || e != api.ErrNone {
			t.Errorf("Dominates %v: %t, error %d", l, is, e)
		}
	}
}

// TestDominance: in a plain way, by walks without a block (P19.2).
func TestDominance(t *testing.T) {
	for i, f := range made(t, 800, 14, false) {
		over := graphs.Dominance(f.Blocks)
		preds, e := ssa.Preds(f)
		if e != api.OK || !alike(preds, graphs.Preds(f.Blocks)) {
			t.Fatalf("%d: predecessors %v", i, preds)
		}
		near, _ := ssa.Dominators(f)
		frontier, _ := ssa.Frontier(f)
		for a := range f.Blocks {
			want := -1
			for b := range f.Blocks {
				if is, e := ssa.Dominates(f, a, b); e != api.OK || is != over[a][b] {
					t.Fatalf("%d: does %d dominate %d: %t", i, a, b, is)
				}
				if b != a && over[b][a] && (want < 0 || over[want][b]) {
					want = b
				}
				meets := slices.ContainsFunc(preds[b], func(p int) bool { return over[a][p] }) && (a == b || !over[a][b])
				if slices.Contains(frontier[a], b) != meets {
					t.Fatalf("%d: the frontier of %d: %v", i, a, frontier[a])
				}
			}
			if near[a] != want || !slices.IsSorted(frontier[a]) {
				t.Fatalf("%d: the immediate dominator of %d: %d, not %d", i, a, near[a], want)
			}
		}
	}
}

// TestOrder: each block once, behind its immediate dominator, in the order of the walk (P19.3).
func TestOrder(t *testing.T) {
	for i, f := range made(t, 800, 14, false) {
		order, e := ssa.Order(f)
		var want []int
		met := make(map[int]bool)
		var visit func(b int)
		visit = func(b int) {
			met[b] = true
			for _, to := range f.Blocks[b].End.To {
				if !met[to] {
					visit(to)
				}
			}
			want = slices.Insert(want, 0, b)
		}
		visit(0)
		if e != api.OK || !slices.Equal(order, want) {
			t.Fatalf("%d: %v, not %v", i, order, want)
		}
		near, _ := ssa.Dominators(f)
		for k, b := range order[1:] {
			if slices.Index(order, near[b]) > k {
				t.Fatalf("%d: %d stands ahead of its dominator in %v", i, b, order)
			}
		}
	}
	f := function(block(branch(0, 2, 1)), block(jump(3)), block(jump(3)), block(returns(0)))
	if l, _ := ssa.Order(f); !slices.Equal(l, []int{0, 1, 2, 3}) {
		t.Errorf("the order %v", l)
	}
}

// reaches reports whether there is a way from a block to another one that does not come to a third one.
func reaches(f ssa.Func, from, to, without int) bool {
	met := make([]bool, len(f.Blocks))
	var visit func(b int) bool
	visit = func(b int) bool {
		if b == without || met[b] {
			return false
		}
		met[b] = true
		return b == to || slices.ContainsFunc(f.Blocks[b].End.To, visit)
	}
	return visit(from)
}

// TestLoops: in a plain way.
func TestLoops(t *testing.T) {
	count := 0
	for i, f := range made(t, 800, 14, false) {
		over := graphs.Dominance(f.Blocks)
		heads, blocks, e := ssa.Loops(f)
		var wantHeads []int
		var wantBlocks [][]int
		for h := range f.Blocks {
			var back []int
			for _, p := range graphs.Preds(f.Blocks)[h] {
				if over[h][p] {
					back = append(back, p)
				}
			}
			if len(back) == 0 {
				continue
			}
			var l []int
			for b := range f.Blocks {
				if b == h || slices.ContainsFunc(back, func(p int) bool { return reaches(f, b, p, h) }) {
					l = append(l, b)
				}
			}
			wantHeads, wantBlocks = append(wantHeads, h), append(wantBlocks, l)
			count++
		}
		if e != api.OK || !alike(heads, wantHeads) || !alike(blocks, wantBlocks) {
			t.Fatalf("%d: loops %v %v, not %v %v", i, heads, blocks, wantHeads, wantBlocks)
		}
	}
	if count < 200 {
		t.Errorf("%d loops", count)
	}
	f := function(block(jump(1)), block(branch(0, 1, 2)), block(returns(0)))
	if heads, blocks, _ := ssa.Loops(f); !alike(heads, []int{1}) || !alike(blocks, [][]int{{1}}) {
		t.Errorf("a loop of one block: %v %v", heads, blocks)
	}
}

// needed reports in a plain way whether there is a way from the beginning of a block to a use of a value on which it is not made.
func needed(f ssa.Func, v, from int) bool {
	preds := graphs.Preds(f.Blocks)
	met := make([]bool, len(f.Blocks))
	var visit func(b, by int) bool
	visit = func(b, by int) bool {
		if end := f.Blocks[max(by, 0)].End; by >= 0 && end.Kind == ssa.Try && end.To[0] == b && end.Call.Result == v {
			return false
		}
		l := f.Blocks[b].Ins
		if slices.ContainsFunc(l, func(x ssa.Ins) bool { return x.Op == ssa.Phi && x.Result == v }) || met[b] {
			return false
		}
		met[b] = true
		for _, x := range l {
			if x.Op != ssa.Phi && slices.Contains(x.Args, v) {
				return true
			}
			if x.Result == v {
				return false
			}
		}
		end := f.Blocks[b].End
		if slices.Contains(end.Args, v) || slices.Contains(end.Call.Args, v) {
			return true
		}
		for _, to := range end.To {
			for _, x := range f.Blocks[to].Ins {
				for k, p := range preds[to] {
					if x.Op == ssa.Phi && p == b && x.Args[k] == v {
						return true
					}
				}
			}
		}
		return slices.ContainsFunc(end.To, func(to int) bool { return visit(to, b) })
	}
	for _, p := range preds[from] {
		if end := f.Blocks[p].End; end.Kind == ssa.Try && end.To[0] == from && end.Call.Result == v {
			return false
		}
	}
	return visit(from, -1)
}

// TestLive: in a plain way; nothing but parameters is needed at the beginning (P19.4).
func TestLive(t *testing.T) {
	count := 0
	for i, f := range made(t, 600, 10, true) {
		live, e := ssa.Live(f)
		uses, e2 := ssa.Uses(f)
		if e != api.OK || e2 != api.OK || len(live) != len(f.Blocks) {
			t.Fatalf("%d: errors %d, %d", i, e, e2)
		}
		for b := range f.Blocks {
			var want []int
			for v := range uses {
				if needed(f, v, b) {
					want = append(want, v)
				}
			}
			if !alike(live[b], want) {
				t.Fatalf("%d: live in %d: %v, not %v", i, b, live[b], want)
			}
			count += len(want)
			if b == 0 && slices.ContainsFunc(want, func(v int) bool { return v >= len(f.Params) }) {
				t.Fatalf("%d: needed at the beginning: %v", i, want)
			}
			if slices.ContainsFunc(want, func(v int) bool { return uses[v] == 0 }) {
				t.Fatalf("%d: what nothing uses is live: %v", i, want)
			}
		}
	}
	if count < 1000 {
		t.Errorf("%d values", count)
	}
}

// TestUses: how often each value is used.
func TestUses(t *testing.T) {
	f := function(block(tries(text(ssa.Call, 7, "m", 0, 1, 1), 1, 2), number(1, 1), ins(ssa.Tuple, 4, 0, 0, 1)), block(returns(7)), block(returns(3), ins(ssa.Phi, 3, 4)))
	if l, e := ssa.Uses(f); e != api.OK || !slices.Equal(l, []int{3, 3, 0, 1, 1, 0, 0, 1}) {
		t.Errorf("uses: %v, error %d", l, e)
	}
	if l, e := ssa.Uses(ssa.Func{Params: make([]api.Type, 3), Blocks: []ssa.Block{block(returns(1))}}); e != api.OK || !slices.Equal(l, []int{0, 1, 0}) {
		t.Errorf("uses of parameters: %v", l)
	}
	if l, e := ssa.Uses(ssa.Func{Blocks: []ssa.Block{block(ssa.End{Kind: ssa.Error})}}); e != api.OK || len(l) != 0 {
		t.Errorf("uses of nothing: %v", l)
	}
}

// TestBackward: in functions without other circles than loops, an edge that does not go forward ends at the head of a loop that
// dominates its beginning (P19.3).
func TestBackward(t *testing.T) {
	plain := 0
	for i, f := range made(t, 800, 14, false) {
		over := graphs.Dominance(f.Blocks)
		forward := function(slices.Clone(f.Blocks)...)
		for b := range forward.Blocks {
			forward.Blocks[b].End.To = slices.DeleteFunc(slices.Clone(f.Blocks[b].End.To), func(to int) bool { return over[to][b] })
		}
		circle := false
		for b, x := range forward.Blocks {
			circle = circle || slices.ContainsFunc(x.End.To, func(to int) bool { return reaches(forward, to, b, -1) })
		}
		if circle {
			continue
		}
		plain++
		order, _ := ssa.Order(f)
		heads, _, _ := ssa.Loops(f)
		for b, x := range f.Blocks {
			for _, to := range x.End.To {
				if slices.Index(order, to) <= slices.Index(order, b) && (!over[to][b] || !slices.Contains(heads, to)) {
					t.Fatalf("%d: the edge from %d to %d goes backward", i, b, to)
				}
			}
		}
	}
	if plain < 400 {
		t.Errorf("%d functions without other circles", plain)
	}
}
