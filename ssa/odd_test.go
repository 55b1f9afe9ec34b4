package ssa_test

import (
	"testing"

	"hackamore/api"
	"hackamore/graphs"
	"hackamore/samples"
	"hackamore/ssa"
)

// spoiled returns a function in which some numbers and texts are others.
func spoiled(m *samples.Maker, f ssa.Func) ssa.Func {
	numbers := func(l []int) []int {
		for i := range l {
			if m.Below(80) == 0 {
				l[i] = m.Number()
			}
		}
		if m.Below(80) == 0 {
			l = append(l, m.Number())
		}
		return l
	}
	ins := func(x *ssa.Ins) {
		x.Args = numbers(x.Args)
		switch m.Below(120) {
		case 0:
			x.Op = m.Number()
		case 1:
			x.Result = m.Number()
		case 2:
			x.Text = m.OddName()
		case 3:
			x.Name = m.OddName()
		case 4:
			x.Type = m.OddType(4)
		case 5:
			x.N, x.Flag = m.Number(), true
		case 6:
			x.Lit = api.Value{Kind: m.Number(), Kids: make([]api.Value, m.Below(70))}
		}
	}
	for i := range f.Blocks {
		b := &f.Blocks[i]
		for j := range b.Ins {
			ins(&b.Ins[j])
		}
		if b.End.Call.Op != 0 || m.Below(30) == 0 {
			ins(&b.End.Call)
		}
		b.End.Args, b.End.To = numbers(b.End.Args), numbers(b.End.To)
		if m.Below(20) == 0 {
			b.End.Kind = m.Number()
		}
	}
	if m.Below(20) == 0 {
		f.Params = append(f.Params, m.OddType(3))
	}
	return f
}

// TestAnything: functions of all kinds, right and wrong: nothing panics, and what one function says the others say.
func TestAnything(t *testing.T) {
	m := samples.New(198)
	count := map[api.Errno]int{}
	for seed := range uint64(6000) {
		g := graphs.New(seed, 7, true)
		f := spoiled(m, g.Func("f", g.Below(3)))
		at, e := ssa.CheckFunc(f)
		count[e]++
		if at.Func != 0 || at.Block < 0 || at.At < 0 {
			t.Fatalf("error %d at %v", e, at)
		}
		_, e2 := ssa.Check(ssa.Program{Funcs: []ssa.Func{f}})
		preds, e3 := ssa.Preds(f)
		order, e4 := ssa.Order(f)
		over, e5 := ssa.Dominators(f)
		_, e6 := ssa.Dominates(f, 0, 0)
		front, e7 := ssa.Frontier(f)
		heads, loops, e8 := ssa.Loops(f)
		live, e9 := ssa.Live(f)
		uses, e10 := ssa.Uses(f)
		for _, x := range []api.Errno{e3, e4, e5, e6, e7, e8, e9, e10} {
			if x != e || e != api.OK && e2 != e {
				t.Fatalf("errors %d and %d", x, e)
			}
		}
		if e != api.OK && len(preds)+len(order)+len(over)+len(front)+len(heads)+len(loops)+len(live)+len(uses) > 0 {
			t.Fatal("a result with an error")
		}
		c, e11 := ssa.Clean(f)
		if e == api.OK && (e11 != api.OK || !ssa.Equal(c, f)) || e11 == api.OK && !hasShapeOf(c) {
			t.Fatalf("Clean: error %d", e11)
		}
		if p, e12 := ssa.Promote(f); e != api.OK && e12 != e || e12 == api.OK && !hasShapeOf(p) {
			t.Fatalf("Promote: error %d", e12)
		}
		if s, e13 := ssa.Print([]ssa.Func{f}); e13 == api.OK {
			if l, n, e := ssa.Parse(s); e != api.OK || n != 0 || !alike(l, []ssa.Func{f}) {
				t.Fatalf("Parse of Print: error %d", e)
			}
		}
	}
	if count[api.OK] < 500 || len(count) < 8 {
		t.Errorf("errors %v", count)
	}
}

func hasShapeOf(f ssa.Func) bool {
	_, e := ssa.CheckFunc(f)
	return e == api.OK
}

// TestAnyText: texts made by numbers.
func TestAnyText(t *testing.T) {
	m := samples.New(199)
	for range 3000 {
		b := make([]byte, m.Below(60))
		for i := range b {
			b[i] = "func block x0:-,\n ~1()_"[m.Below(23)]
		}
		if l, n, e := ssa.Parse(string(b)); e == api.OK && len(l) > 0 || (e == ssa.ErrLine) != (n > 0) {
			t.Fatalf("%q: error %d in the line %d", b, e, n)
		}
	}
}
