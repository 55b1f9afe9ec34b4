package ssa_test

import (
	"slices"
	"testing"

	"hackamore/api"
	"hackamore/graphs"
	"hackamore/samples"
	"hackamore/ssa"
)

// TestClean: blocks that nothing reaches go, and values are numbered in order.
func TestClean(t *testing.T) {
	call := text(ssa.Call, 50, "m", 0)
	f := function(
		block(tries(call, 2, 4), number(9, 1), number(5, 2)),
		block(jump(4), number(6, 3)),
		block(jump(4), ins(ssa.Is, 7, 50, 9)),
		block(branch(6, 1, 4), number(8, 4)),
		block(returns(3), ins(ssa.Phi, 3, 9, 6, 7, 8)),
	)
	want := function(
		block(tries(text(ssa.Call, 3, "m", 0), 1, 2), number(1, 1), number(2, 2)),
		block(jump(2), ins(ssa.Is, 4, 3, 1)),
		block(returns(5), ins(ssa.Phi, 5, 1, 4)),
	)
	if g, e := ssa.Clean(f); e != api.OK || !alike(g, want) {
		t.Errorf("Clean: %v, error %d", g, e)
	}
	f.Blocks[4].Ins[0].Args = []int{9, 6, 7}
	if g, e := ssa.Clean(f); e != ssa.ErrPhi || !alike(g, ssa.Func{}) {
		t.Errorf("Clean with a phi that does not fit: error %d", e)
	}
	f.Blocks[4].Ins[0].Args = []int{9, 7}
	if g, e := ssa.Clean(f); e != api.OK || !alike(g, want) {
		t.Errorf("Clean with a phi that fits behind: %v, error %d", g, e)
	}
	f.Blocks[4].Ins[0].Args = []int{9, 6, 6, 8}
	if _, e := ssa.Clean(f); e != ssa.ErrUse {
		t.Errorf("Clean with a value of a block that is gone: error %d", e)
	}
	f.Blocks[1].Ins[0].Op = 99
	if _, e := ssa.Clean(f); e != api.ErrArg {
		t.Errorf("Clean without the shape: error %d", e)
	}
	if _, e := ssa.Clean(function(block(returns(0)), block(tries(text(ssa.Call, 1, "m", 0), 2, 3)), block(jump(2)), block(returns(9)))); e != api.OK {
		t.Errorf("Clean of blocks that are wrong and not reached: error %d", e)
	}
}

// shuffled returns a function whose values have other numbers.
func shuffled(m *samples.Maker, f ssa.Func) ssa.Func {
	uses, _ := ssa.Uses(f)
	numbers := make(map[int]int)
	taken := make(map[int]bool)
	for v := range uses {
		n := v
		for v >= len(f.Params) && (n < len(f.Params) || taken[n] || n == v) {
			n = m.Below(5000)
		}
		numbers[v], taken[n] = n, true
	}
	s, _ := ssa.Print([]ssa.Func{f})
	l, _, _ := ssa.Parse(s)
	g := l[0]
	renamed := func(l []int) {
		for i, v := range l {
			l[i] = numbers[v]
		}
	}
	for i := range g.Blocks {
		b := &g.Blocks[i]
		for j := range b.Ins {
			b.Ins[j].Result = numbers[b.Ins[j].Result]
			renamed(b.Ins[j].Args)
		}
		renamed(b.End.Args)
		if b.End.Kind == ssa.Try {
			b.End.Call.Result = numbers[b.End.Call.Result]
			renamed(b.End.Call.Args)
		}
	}
	return g
}

// TestCleanLaws: Clean of Clean is Clean, and Equal to the function; so it is with other numbers (P19.5).
func TestCleanLaws(t *testing.T) {
	m := samples.New(195)
	for i, f := range made(t, 600, 12, true) {
		g, e := ssa.Clean(f)
		if e != api.OK || !ssa.Equal(g, f) || !ssa.Equal(f, g) {
			t.Fatalf("%d: Clean is another function, error %d", i, e)
		}
		h, e := ssa.Clean(g)
		if e != api.OK || !alike(g, h) {
			t.Fatalf("%d: Clean of Clean, error %d", i, e)
		}
		s := shuffled(m, f)
		c, e := ssa.Clean(s)
		if e != api.OK || !alike(c, g) || !ssa.Equal(s, f) || !ssa.Equal(s, g) || !ssa.Equal(f, s) {
			t.Fatalf("%d: other numbers, error %d", i, e)
		}
		checkNumbers(t, g)
	}
}

// checkNumbers asks whether values are numbered in order.
func checkNumbers(t *testing.T, f ssa.Func) {
	t.Helper()
	next := len(f.Params)
	for _, b := range f.Blocks {
		for _, x := range b.Ins {
			if x.Result != next {
				t.Fatalf("the value %d, not %d", x.Result, next)
			}
			next++
		}
		if b.End.Kind == ssa.Try {
			if b.End.Call.Result != next {
				t.Fatalf("the value %d of a try, not %d", b.End.Call.Result, next)
			}
			next++
		}
	}
}

// TestEqual: each field counts, and the shapes have to be right.
func TestEqual(t *testing.T) {
	base := func() ssa.Func {
		f := function(
			block(tries(text(ssa.Call, 3, "m", 0), 1, 2), number(1, 1), text(ssa.Make, 2, "A")),
			block(returns(4), ins(ssa.Item, 4, 3)),
			block(branch(0, 1, 2), text(ssa.Spawn, 5, "a")),
		)
		f.Blocks[2].Ins[0].Name = "b"
		return f
	}
	u8 := api.Type{Kind: api.TypeName, Name: "U8", Cap: api.Val}
	for i, change := range []func(f *ssa.Func){
		func(f *ssa.Func) { f.Name = "g" }, func(f *ssa.Func) { f.Params[0] = u8 }, func(f *ssa.Func) { f.Params = nil }, func(f *ssa.Func) { f.Result = u8 }, func(f *ssa.Func) { f.Partial = true },
		func(f *ssa.Func) { f.Blocks = append(f.Blocks, block(returns(0))) }, func(f *ssa.Func) { f.Blocks[0].Ins[0].Lit.Lo = 2 }, func(f *ssa.Func) { f.Blocks[0].Ins[0].Type = u8 },
		func(f *ssa.Func) { f.Blocks[0].Ins[1].Flag = true }, func(f *ssa.Func) { f.Blocks[0].Ins[1].Text = "B" }, func(f *ssa.Func) { f.Blocks[1].Ins[0].N = 1 }, func(f *ssa.Func) { f.Blocks[1].Ins[0].Args[0] = 0 },
		func(f *ssa.Func) { f.Blocks[2].Ins[0].Name = "c" }, func(f *ssa.Func) { f.Blocks[2].Ins = nil }, func(f *ssa.Func) { f.Blocks[2].End = returns(0) }, func(f *ssa.Func) { f.Blocks[2].End.To[0] = 2 },
		func(f *ssa.Func) { f.Blocks[2].End.Args[0] = 5 }, func(f *ssa.Func) { f.Blocks[0].End.Call.Text = "n" }, func(f *ssa.Func) { f.Blocks[0].End.Call.Op = ssa.Direct }, func(f *ssa.Func) { f.Blocks[0].End.Call.Args = []int{0, 0} },
		func(f *ssa.Func) { f.Blocks[0].End.Call.Type = u8 }, func(f *ssa.Func) { f.Blocks[0].Ins = f.Blocks[0].Ins[:1] }, func(f *ssa.Func) { f.Blocks[0].Ins[0].Lit.Kind = 17 },
	} {
		f, g := base(), base()
		if !ssa.Equal(f, g) {
			t.Fatal("equal functions are not")
		}
		change(&g)
		if ssa.Equal(f, g) || ssa.Equal(g, f) || !ssa.Equal(g, g) {
			t.Errorf("the change %d", i)
		}
	}
	f, g := base(), base()
	g.Blocks[1].Ins[0].Args[0], f.Blocks[1].Ins[0].Args[0] = 77, 88
	if !ssa.Equal(f, g) {
		t.Error("values that nothing makes do not count as one")
	}
	g.Blocks[1].Ins[0].Args[0] = 1
	if ssa.Equal(f, g) {
		t.Error("a value that nothing makes, and one that is made")
	}
	g = base()
	g.Blocks[2].Ins[0].Name = ""
	if ssa.Equal(g, g) || ssa.Equal(f, g) || ssa.Equal(ssa.Func{}, ssa.Func{}) {
		t.Error("functions without the shape are equal")
	}
	g = base()
	g.Blocks[0].Ins[0].Args, g.Blocks[0].End.Args, g.Blocks[0].Ins[0].Lit.Kids, g.Params[0].Args = []int{}, []int{}, []api.Value{}, []api.Type{}
	if !ssa.Equal(base(), g) {
		t.Error("empty lists are not equal to nil")
	}
}

// TestMemory: what is handed back has memory of its own.
func TestMemory(t *testing.T) {
	f := diamond()
	f.Params[0].Args = []api.Type{{Kind: 1}}
	f.Blocks[1].Ins[0].Lit.Kids = []api.Value{{Kind: 1}}
	for _, change := range []func(ssa.Func) (ssa.Func, api.Errno){ssa.Clean, ssa.Promote} {
		g, _ := change(f)
		g.Params[0].Args[0].Kind = 9
		g.Blocks[1].Ins[0].Lit.Kids[0].Kind = 9
		g.Blocks[0].End.To[0] = 9
		g.Blocks[3].Ins[0].Args[0] = 9
		g.Blocks[1].Ins[0].Result = 9
	}
	want := diamond()
	want.Params[0].Args = []api.Type{{Kind: 1}}
	want.Blocks[1].Ins[0].Lit.Kids = []api.Value{{Kind: 1}}
	if !alike(f, want) {
		t.Error("an argument was changed")
	}
}

// played compares what two functions return, and what they do on the way.
func played(t *testing.T, f, g ssa.Func) {
	t.Helper()
	for k := range 6 {
		args := []graphs.Value{graphs.Number(k), graphs.Number(k / 2)}[:len(f.Params)]
		a, did := graphs.Play(ssa.Program{}, f, args, 300)
		b, does := graphs.Play(ssa.Program{}, g, args, 300)
		if a == graphs.Tired || b == graphs.Tired {
			n := min(len(did), len(does))
			did, does = did[:n], does[:n]
		} else if a != b {
			t.Fatalf("played with %d: %s, not %s", k, b, a)
		}
		if !slices.Equal(did, does) {
			t.Fatalf("played with %d: %q, not %q", k, does, did)
		}
	}
}
