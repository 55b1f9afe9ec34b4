package ssa_test

import (
	"slices"
	"testing"

	"hackamore/api"
	"hackamore/graphs"
	"hackamore/ssa"
)

// variables returns the local variables of a function, in the order of their names, with the type of each one's first store.
func variables(f ssa.Func) ([]string, map[string]api.Type) {
	var l []string
	types := make(map[string]api.Type)
	for _, b := range f.Blocks {
		for _, x := range b.Ins {
			if x.Op != ssa.Load && x.Op != ssa.Store {
				continue
			}
			if !slices.Contains(l, x.Text) {
				l = append(l, x.Text)
			}
			if _, ok := types[x.Text]; x.Op == ssa.Store && !ok {
				types[x.Text] = x.Type
			}
		}
	}
	return l, types
}

// isAsked reports in a plain way whether there is a way from the beginning of a block to something that asks for a variable, without a store of it.
func isAsked(f ssa.Func, name string, from int) bool {
	uses, _ := ssa.Uses(f)
	met := make([]bool, len(f.Blocks))
	var visit func(b int) bool
	visit = func(b int) bool {
		if met[b] {
			return false
		}
		met[b] = true
		for _, x := range f.Blocks[b].Ins {
			if x.Text != name || x.Op != ssa.Load && x.Op != ssa.Store {
				continue
			}
			return x.Op == ssa.Load || uses[x.Result] > 0
		}
		return slices.ContainsFunc(f.Blocks[b].End.To, visit)
	}
	return visit(from)
}

// merging returns in a plain way the blocks in which a variable gets a phi.
func merging(f ssa.Func, name string) []int {
	frontier, _ := ssa.Frontier(f)
	var all []int
	for b, x := range f.Blocks {
		if slices.ContainsFunc(x.Ins, func(x ssa.Ins) bool { return x.Op == ssa.Store && x.Text == name }) {
			all = append(all, b)
		}
	}
	meets := make([]bool, len(f.Blocks))
	for i := 0; i < len(all); i++ {
		for _, b := range frontier[all[i]] {
			if !meets[b] {
				meets[b] = true
				all = append(all, b)
			}
		}
	}
	var l []int
	for b := range f.Blocks {
		if meets[b] && isAsked(f, name, b) {
			l = append(l, b)
		}
	}
	return l
}

// TestPromote: the phis that are made, and what the function does (P19.6).
func TestPromote(t *testing.T) {
	count := map[api.Errno]int{}
	phis := 0
	for i, f := range made(t, 4000, 10, true) {
		names, types := variables(f)
		g, e := ssa.Promote(f)
		count[e]++
		want := api.OK
		if slices.ContainsFunc(names, func(s string) bool { return isAsked(f, s, 0) }) {
			want = ssa.ErrUse
		}
		if e != want || e != api.OK && !alike(g, ssa.Func{}) {
			t.Fatalf("%d: error %d, not %d", i, e, want)
		}
		if e != api.OK {
			continue
		}
		if at, e := ssa.CheckFunc(g); e != api.OK {
			t.Fatalf("%d: error %d at %v behind Promote", i, e, at)
		}
		if left, _ := variables(g); len(left) > 0 || len(g.Blocks) != len(f.Blocks) {
			t.Fatalf("%d: variables are left", i)
		}
		phis += checkPhis(t, f, g, names, types)
		checkNumbers(t, g)
		played(t, f, g)
	}
	if count[api.OK] < 1000 || count[ssa.ErrUse] < 200 || phis < 300 {
		t.Errorf("errors %v, %d phis", count, phis)
	}
}

// checkPhis asks for the phis of variables: their blocks, their order and their types; it tells how many there are.
func checkPhis(t *testing.T, f, g ssa.Func, names []string, types map[string]api.Type) int {
	t.Helper()
	isPhi := func(x ssa.Ins) bool { return x.Op == ssa.Phi }
	n := 0
	for b := range f.Blocks {
		var want []api.Type
		for _, x := range f.Blocks[b].Ins {
			if isPhi(x) {
				want = append(want, x.Type)
			}
		}
		for _, name := range names {
			if slices.Contains(merging(f, name), b) {
				want = append(want, types[name])
				n++
			}
		}
		var got []api.Type
		for _, x := range g.Blocks[b].Ins {
			if isPhi(x) {
				got = append(got, x.Type)
			}
		}
		if !alike(got, want) {
			t.Fatalf("the phis of the block %d: %v, not %v", b, got, want)
		}
	}
	return n
}

// TestPromoteNothing: without load and store it is Clean.
func TestPromoteNothing(t *testing.T) {
	for i, f := range made(t, 300, 10, false) {
		g, e := ssa.Promote(f)
		c, _ := ssa.Clean(f)
		if e != api.OK || !alike(g, c) {
			t.Fatalf("%d: Promote is not Clean, error %d", i, e)
		}
		played(t, f, g)
	}
}

// TestPromoteByHand: what loads and stores become.
func TestPromoteByHand(t *testing.T) {
	store := func(result int, name string, v int) ssa.Ins { return text(ssa.Store, result, name, v) }
	load := func(result int, name string) ssa.Ins { return text(ssa.Load, result, name) }
	u8 := api.Type{Kind: api.TypeName, Name: "U8", Cap: api.Val}
	typed := func(x ssa.Ins, t api.Type) ssa.Ins { x.Type = t; return x }
	for i, c := range []struct{ f, want ssa.Func }{
		{function(block(returns(3), store(1, "x", 0), load(2, "x"), ins(ssa.Is, 3, 2, 0))), function(block(returns(1), ins(ssa.Is, 1, 0, 0)))},
		{function(block(returns(4), store(1, "x", 0), number(2, 1), store(3, "x", 2), ins(ssa.Tuple, 4, 3, 0))), function(block(returns(2), number(1, 1), ins(ssa.Tuple, 2, 0, 0)))},
		{function(block(returns(0), store(1, "x", 0))), function(block(returns(0)))},
		{function(block(jump(1), store(1, "x", 0), store(9, "y", 0)), block(branch(2, 1, 2), load(2, "x"), number(3, 1), typed(store(4, "x", 3), u8), store(8, "y", 3)), block(returns(2))),
			function(block(jump(1)), block(branch(1, 1, 2), ins(ssa.Phi, 1, 0, 2), number(2, 1)), block(returns(1)))},
		{function(block(branch(0, 1, 2), typed(store(1, "x", 0), u8), number(2, 7)), block(jump(3), store(3, "x", 2)), block(jump(3), store(7, "z", 0), store(4, "y", 2)), block(returns(5), load(5, "x"))),
			function(block(branch(0, 1, 2), number(1, 7)), block(jump(3)), block(jump(3)), block(returns(2), typed(ins(ssa.Phi, 2, 1, 0), u8)))},
		{function(block(branch(0, 1, 1), store(1, "x", 0)), block(returns(2), load(2, "x"))), function(block(branch(0, 1, 1)), block(returns(0)))},
		{function(block(tries(text(ssa.Call, 1, "m", 0), 1, 2), store(2, "x", 0)), block(jump(3), store(3, "x", 1)), block(jump(3)), block(returns(4), load(4, "x"))),
			function(block(tries(text(ssa.Call, 1, "m", 0), 1, 2)), block(jump(3)), block(jump(3)), block(returns(2), ins(ssa.Phi, 2, 1, 0)))},
		// y comes first, but x stands in the phis that are there; a store that is asked for asks for what was ahead.
		{function(block(branch(0, 1, 2), number(1, 1), store(2, "y", 0), store(3, "x", 0)), block(jump(3), store(4, "x", 1), store(5, "y", 1)), block(jump(3)), block(returns(9), ins(ssa.Phi, 6, 1, 0), load(7, "x"), store(8, "y", 7), ins(ssa.Tuple, 9, 7, 8))),
			function(block(branch(0, 1, 2), number(1, 1)), block(jump(3)), block(jump(3)), block(returns(5), ins(ssa.Phi, 2, 1, 0), ins(ssa.Phi, 3, 1, 0), ins(ssa.Phi, 4, 1, 0), ins(ssa.Tuple, 5, 4, 3)))},
	} {
		if g, e := ssa.Promote(c.f); e != api.OK || !alike(g, c.want) {
			t.Errorf("%d: error %d\n%s", i, e, printed(g, c.want))
		}
	}
	for i, f := range []ssa.Func{
		function(block(returns(1), load(1, "x"))), function(block(returns(1), store(1, "x", 0))), function(block(branch(0, 1, 2)), block(jump(2), store(1, "x", 0)), block(returns(0), load(2, "x"))),
		function(block(branch(0, 1, 2)), block(jump(2), store(1, "x", 0)), block(returns(2), store(2, "x", 0))), function(block(jump(1)), block(jump(1), load(1, "x"), store(2, "x", 0))),
	} {
		if g, e := ssa.Promote(f); e != ssa.ErrUse || !alike(g, ssa.Func{}) {
			t.Errorf("%d: error %d", i, e)
		}
	}
}

func printed(l ...ssa.Func) string {
	s, _ := ssa.Print(l)
	return s
}

// nest returns a function with loops in each other, and so many variables that change in the innermost one.
func nest(loops, variables int) ssa.Func {
	next := 1
	all := func(op int, args ...int) []ssa.Ins {
		var l []ssa.Ins
		for i := range variables {
			l = append(l, text(op, next, "v"+string(rune('A'+i)), args...))
			next++
		}
		return l
	}
	f := function(block(jump(1), all(ssa.Store, 0)...))
	for i := range loops {
		f.Blocks = append(f.Blocks, block(jump(i+2)))
	}
	c := number(next, 1)
	next++
	f.Blocks = append(f.Blocks, block(jump(loops+2), append([]ssa.Ins{c}, all(ssa.Store, c.Result)...)...))
	for i := range loops {
		f.Blocks = append(f.Blocks, block(branch(0, loops-i, loops+3+i)))
	}
	f.Blocks = append(f.Blocks, block(returns(0), all(ssa.Load)...))
	return f
}

// TestPromoteTooLarge: a function with too many phis is not right. (Only variables that are needed get phis.)
func TestPromoteTooLarge(t *testing.T) {
	f := nest(130, 58)
	if g, e := ssa.Promote(f); e != api.OK || !slices.Equal(f.Blocks[0].End.To, g.Blocks[0].End.To) || len(g.Blocks[1].Ins) != 0 {
		t.Errorf("variables that nobody needs in the loops: error %d", e)
	}
	asking := func(loops, variables int) ssa.Func {
		f := nest(loops, variables)
		x := &f.Blocks[loops+1]
		uses, _ := ssa.Uses(f)
		for i := range variables {
			x.Ins = slices.Insert(x.Ins, 0, text(ssa.Load, len(uses)+i, "v"+string(rune('A'+i))))
		}
		return f
	}
	if g, e := ssa.Promote(asking(68, 58)); e != api.OK || len(g.Blocks[1].Ins) != 58 {
		t.Errorf("58 variables in 68 loops: error %d", e)
	}
	if g, e := ssa.Promote(asking(69, 58)); e != api.ErrSize || !alike(g, ssa.Func{}) {
		t.Errorf("58 variables in 69 loops: error %d", e)
	}
}

// TestPromoteLarge: many blocks and variables.
func TestPromoteLarge(t *testing.T) {
	m := graphs.New(196, 200, true)
	for range 20 {
		f := m.Func("f", 2)
		if g, e := ssa.Promote(f); e == api.OK {
			played(t, f, g)
		}
	}
}
