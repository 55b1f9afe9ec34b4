package optimize_test

import (
	"slices"
	"strconv"
	"testing"

	"hackamore/api"
	"hackamore/graphs"
	"hackamore/optimize"
	"hackamore/ssa"
	"hackamore/witness"
)

// TestExamples: those of the chapter.
func TestExamples(t *testing.T) {
	add := func(result, a, b int) ssa.Ins { return text(ssa.Native, result, "U8.add", a, b) }
	p := one(block(branch(7, 1, 2), number(2, 1), number(3, 2), add(4, 2, 3), add(5, 2, 3), ins(ssa.Tuple, 6, 4, 5), truth(7, true)), block(returns(6)), block(returns(0)))
	folded := one(block(jump(1), number(2, 1), number(3, 2), number(4, 3), number(5, 3), ins(ssa.Tuple, 6, 4, 5), truth(7, true)), block(returns(6)))
	becomes(t, "two additions", optimize.Fold, p, folded, optimize.StepFold, optimize.StepFold, optimize.StepBranch)
	same := one(block(jump(1), number(2, 1), number(3, 2), number(4, 3), ins(ssa.Tuple, 6, 4, 4), truth(7, true)), block(returns(6)))
	becomes(t, "the same constants", optimize.Common, folded, same, optimize.StepCommon)
	rest := one(block(returns(6), number(4, 3), ins(ssa.Tuple, 6, 4, 4)))
	becomes(t, "what nobody needs", optimize.Dead, same, rest, optimize.StepDrop, optimize.StepDrop, optimize.StepDrop, optimize.StepJoin)
	q, l := run(t, p, optimize.Fold, optimize.Common, optimize.Dead)
	if len(l) != 8 || !ssa.Equal(q.Funcs[0], rest.Funcs[0]) {
		t.Errorf("%d steps", len(l))
	}
}

// TestErrors: of Run, in their order.
func TestErrors(t *testing.T) {
	p, bad := one(block(returns(0))), one(block(returns(9)))
	for i, c := range []struct {
		p      ssa.Program
		passes []int
		want   api.Errno
	}{
		{bad, slices.Repeat([]int{9}, 21), api.ErrSize}, {bad, []int{1, 9}, api.ErrArg}, {bad, []int{0}, api.ErrArg}, {p, []int{-1}, api.ErrArg}, {p, []int{1 << 40}, api.ErrArg}, {bad, []int{1}, ssa.ErrUse}, {bad, nil, ssa.ErrUse},
		{p, slices.Repeat([]int{1}, 20), api.OK}, {p, nil, api.OK}, {ssa.Program{}, []int{1, 2, 3, 4, 5, 6, 7, 8}, api.OK},
	} {
		q, l, e := optimize.Run(c.p, c.passes)
		if e != c.want || len(l) > 0 || e != api.OK && !alike(q, ssa.Program{}) || e == api.OK && !alike(q, c.p) {
			t.Errorf("%d: error %d, not %d", i, e, c.want)
		}
	}
	m := graphs.New(7, 9, true)
	large := m.Program(5)
	if q, l, e := optimize.Run(large, nil); e != api.OK || len(l) > 0 || !alike(q, large) {
		t.Errorf("without passes: error %d", e)
	}
}

// TestUsual: the passes of the levels.
func TestUsual(t *testing.T) {
	const c, f, o, d, i, v, e, w = optimize.Copies, optimize.Fold, optimize.Common, optimize.Dead, optimize.Inline, optimize.Devirt, optimize.Escape, optimize.Forward
	all := []int{v, i, c, f, v, i, c, w, f, o, e, d}
	for level, want := range map[int][]int{-1 << 63: nil, -1: nil, 0: nil, 1: {c, f, d}, 2: {v, i, c, f, o, d}, 3: all, 4: all, 1 << 62: all} {
		if l := optimize.Usual(level); !slices.Equal(l, want) {
			t.Errorf("the level %d: %v", level, l)
		}
	}
	if !slices.Equal([]int{c, f, o, d, i, v, e, w}, []int{1, 2, 3, 4, 5, 6, 7, 8}) || optimize.Passes != 8 || optimize.StepCopy != 1 || optimize.StepField != 10 || optimize.StepCount != 10 {
		t.Error("the numbers of passes and steps")
	}
	optimize.Usual(3)[0] = 99
	if optimize.Usual(3)[0] != v {
		t.Error("the list is shared")
	}
}

// TestSize: instructions, with the Calls of tries.
func TestSize(t *testing.T) {
	p := one(block(attempt(text(ssa.Call, 3, "m", 0), 1, 2), number(2, 1)), block(returns(0), number(4, 1), number(5, 1)), block(returns(0)))
	p.Funcs = append(p.Funcs, function("g", 1, block(returns(0))), function("h", 1, block(returns(0), number(1, 1))))
	if n := optimize.Size(p); n != 5 {
		t.Errorf("the size %d", n)
	}
	if n := optimize.Size(ssa.Program{}) + optimize.Size(ssa.Program{Funcs: []ssa.Func{{Blocks: []ssa.Block{{End: ssa.End{Kind: 99}}}}}}); n != 0 {
		t.Errorf("the size of nothing: %d", n)
	}
}

// TestCopies: phis and items that are other values, one behind the other.
func TestCopies(t *testing.T) {
	call := func(result int, args ...int) ssa.Ins { return text(ssa.Call, result, "m", args...) }
	p := one(block(jump(1), ins(ssa.Tuple, 2, 0, 1), item(3, 0, 2), ins(ssa.Tuple, 4, 3, 3)), block(branch(8, 1, 2), ins(ssa.Phi, 5, 3, 5), ins(ssa.Phi, 7, 1, 7), item(8, 1, 4)), block(returns(7), ins(ssa.Phi, 9, 5), call(10, 9)))
	q, _ := run(t, p, optimize.Copies)
	if want := function("f", 2, block(jump(1)), block(branch(0, 1, 2)), block(returns(1), call(10, 0))); !ssa.Equal(q.Funcs[0], want) {
		text, _ := ssa.Print(q.Funcs)
		t.Errorf("copies:\n%s", text)
	}
	// Phis that depend on each other, beside one value, are this; but no step says so.
	circle := one(block(jump(1)), block(branch(0, 1, 2), ins(ssa.Phi, 2, 0, 3), ins(ssa.Phi, 3, 0, 2)), block(returns(2)))
	becomes(t, "phis of each other", optimize.Copies, circle, circle)
	becomes(t, "nobody needs the phi", optimize.Copies, one(block(jump(1)), block(returns(0), ins(ssa.Phi, 2, 1))), one(block(jump(1)), block(returns(0))), optimize.StepDrop)
	becomes(t, "values that nobody needs", optimize.Copies, one(block(returns(0), number(2, 1), ins(ssa.Tuple, 3, 2, 2), text(ssa.Call, 4, "m", 0), text(ssa.Load, 5, "x"), text(ssa.Make, 6, "A"), text(ssa.Get, 7, "x", 6), text(ssa.Text, 8, "a"))),
		one(block(returns(0), text(ssa.Call, 4, "m", 0))), optimize.StepDrop, optimize.StepDrop, optimize.StepDrop, optimize.StepDrop, optimize.StepDrop, optimize.StepDrop)
}

// TestFold: what follows from constants, also in blocks that come behind.
func TestFold(t *testing.T) {
	p := one(block(jump(2), number(2, 3)), block(branch(6, 3, 4), ins(ssa.Is, 6, 5, 2)), block(jump(1), text(ssa.Native, 5, "U8.add", 2, 2)), block(returns(0)), block(returns(1), text(ssa.Native, 7, "U8.div_partial", 2, 8), number(8, 0)))
	p.Funcs[0].Blocks[4].Ins = []ssa.Ins{number(8, 0), text(ssa.Native, 7, "U8.div_partial", 2, 8)}
	want := one(block(jump(2), number(2, 3)), block(jump(3), graphs.Truth(6, false)), block(jump(1), number(5, 6)), block(returns(1), number(8, 0), text(ssa.Native, 7, "U8.div_partial", 2, 8)))
	becomes(t, "constants", optimize.Fold, p, want, optimize.StepFold, optimize.StepFold, optimize.StepBranch)
	same := one(block(branch(0, 1, 1)), block(returns(2), ins(ssa.Phi, 2, 1, 1)))
	becomes(t, "both ways", optimize.Fold, same, one(block(jump(1)), block(returns(2), ins(ssa.Phi, 2, 1))), optimize.StepBranch)
	other := one(block(branch(0, 1, 1)), block(returns(2), ins(ssa.Phi, 2, 0, 1)))
	becomes(t, "both ways with other values", optimize.Fold, other, other)
	gone := one(block(branch(2, 1, 4), truth(2, true)), block(jump(3)), block(jump(3)), block(returns(3), ins(ssa.Phi, 3, 0, 1)), block(branch(0, 2, 4)))
	becomes(t, "blocks that go", optimize.Fold, gone, one(block(jump(1), truth(2, true)), block(jump(2)), block(returns(3), ins(ssa.Phi, 3, 0))), optimize.StepBranch)
}

// TestCommon: what was made ahead, and what follows from that.
func TestCommon(t *testing.T) {
	p := one(block(branch(0, 1, 2), ins(ssa.Is, 2, 0, 1), number(3, 1)), block(jump(3), number(4, 1), ins(ssa.Tuple, 5, 4, 2)), block(jump(3), ins(ssa.Is, 6, 0, 1), ins(ssa.Tuple, 7, 3, 6)), block(returns(9), ins(ssa.Phi, 8, 5, 7), ins(ssa.Phi, 9, 5, 7), text(ssa.Call, 10, "m", 8)))
	want := one(block(branch(0, 1, 2), ins(ssa.Is, 2, 0, 1), number(3, 1)), block(jump(3), ins(ssa.Tuple, 5, 3, 2)), block(jump(3), ins(ssa.Tuple, 7, 3, 2)), block(returns(8), ins(ssa.Phi, 8, 5, 7), text(ssa.Call, 10, "m", 8)))
	becomes(t, "what was made ahead", optimize.Common, p, want, optimize.StepCommon, optimize.StepCommon, optimize.StepCommon)
	late := one(block(branch(0, 1, 2)), block(returns(2), number(2, 1)), block(returns(3), number(3, 1)))
	becomes(t, "other ways", optimize.Common, late, late)
	idle := one(block(branch(0, 1, 2)), block(returns(0), number(2, 1)), block(returns(3), number(3, 1)))
	becomes(t, "what nobody needs", optimize.Common, idle, one(block(branch(0, 1, 2)), block(returns(0)), block(returns(3), number(3, 1))), optimize.StepCommon)
	chain := func(n, m int) ssa.Program {
		p := one(block(returns(0)))
		l := &p.Funcs[0].Blocks[0].Ins
		for range m {
			v := 0
			for range n {
				*l = append(*l, ins(ssa.Tuple, 2+len(*l), v, 1))
				v = 1 + len(*l)
			}
			*l = append(*l, text(ssa.Call, 2+len(*l), "m", v))
		}
		return p
	}
	if q, l := run(t, chain(20, 5), optimize.Common); len(l) != 80 || optimize.Size(q) != 25 {
		t.Errorf("chains: %d steps, %d are left", len(l), optimize.Size(q))
	}
}

// TestDead: what nobody needs, and blocks that join.
func TestDead(t *testing.T) {
	p := one(block(jump(3), number(2, 1)), block(returns(5), ins(ssa.Phi, 5, 3, 0)), block(jump(1)), block(branch(3, 1, 2), ins(ssa.Phi, 3, 2), number(4, 4), ins(ssa.Is, 6, 4, 4)))
	want := one(block(branch(2, 1, 2), number(2, 1)), block(returns(5), ins(ssa.Phi, 5, 0, 2)), block(jump(1)))
	becomes(t, "blocks", optimize.Dead, p, want, optimize.StepDrop, optimize.StepDrop, optimize.StepJoin)
	circle := one(block(jump(1)), block(jump(2), ins(ssa.Phi, 2, 0, 3)), block(branch(0, 1, 3), ins(ssa.Phi, 3, 2)), block(returns(0)))
	becomes(t, "a phi that needs itself alone behind a join", optimize.Dead, circle, one(block(jump(1)), block(branch(0, 1, 2)), block(returns(0))), optimize.StepJoin, optimize.StepDrop)
	line := function("f", 2)
	for range 400 {
		line.Blocks = append(line.Blocks, block(returns(0)))
	}
	perm := shuffle(400)
	for i := range 399 {
		line.Blocks[perm[i]] = block(jump(perm[i+1]), number(2+i, i%200))
	}
	q, l := run(t, ssa.Program{Funcs: []ssa.Func{line}}, optimize.Dead)
	if len(q.Funcs[0].Blocks) != 1 || optimize.Size(q) != 0 || len(l) != 399*2 {
		t.Errorf("%d blocks are left, %d steps", len(q.Funcs[0].Blocks), len(l))
	}
	if q, l := run(t, one(block(jump(1)), block(jump(1))), optimize.Dead); len(l) != 0 || len(q.Funcs[0].Blocks) != 2 {
		t.Errorf("a block that jumps to itself: %d steps", len(l))
	}
}

// shuffle returns the numbers below n in another order, 0 first.
func shuffle(n int) []int {
	m := graphs.New(5, 1, false)
	var l []int
	for i := range n {
		l = append(l, i)
	}
	for i := n - 1; i > 1; i-- {
		j := 1 + m.Below(i)
		l[i], l[j] = l[j], l[i]
	}
	return l
}

// TestInline: which functions are inlined.
func TestInline(t *testing.T) {
	sized := func(s string, n int, more ...ssa.Ins) ssa.Func {
		f := function(s, 2, block(returns(1)))
		for i := range n {
			f.Blocks[0].Ins = append(f.Blocks[0].Ins, text(ssa.Call, 2+i, "m", 0))
		}
		f.Blocks[0].Ins = append(f.Blocks[0].Ins, more...)
		return f
	}
	calls := func(s string, n int, names ...string) ssa.Func {
		f := sized(s, n)
		for _, g := range names {
			f.Blocks[0].Ins = append(f.Blocks[0].Ins, text(ssa.Direct, 2+len(f.Blocks[0].Ins), g, 0, 1))
		}
		return f
	}
	for i, c := range []struct {
		l     []ssa.Func
		steps int
	}{
		{[]ssa.Func{calls("f", 0, "g"), sized("g", 10)}, 1}, {[]ssa.Func{calls("f", 0, "g", "g"), sized("g", 0)}, 2}, {[]ssa.Func{calls("f", 0, "g"), sized("g", 41)}, 0}, {[]ssa.Func{calls("f", 0, "f"), sized("g", 3)}, 0},
		{[]ssa.Func{calls("f", 0, "g"), calls("g", 0, "f")}, 0}, {[]ssa.Func{calls("f", 0, "g"), calls("g", 0, "h"), sized("h", 1)}, 2}, {[]ssa.Func{sized("h", 1), calls("g", 0, "h"), calls("f", 0, "g", "g")}, 3}, {[]ssa.Func{calls("f", 989, "g"), sized("g", 10)}, 1},
		{[]ssa.Func{calls("f", 990, "g"), sized("g", 10)}, 0}, {[]ssa.Func{calls("f", 0, "g"), sized("g", 3, text(ssa.Load, 50, "x"))}, 0}, {[]ssa.Func{calls("f", 0, "g"), sized("g", 3, text(ssa.Direct, 50, "k")), function("k", 0, block(graphs.Fails()))}, 0},
	} {
		p := ssa.Program{Funcs: c.l}
		q, l := run(t, p, optimize.Inline)
		if len(l) != c.steps {
			t.Errorf("%d: %d steps, not %d", i, len(l), c.steps)
		}
		for j := range q.Funcs {
			if n := optimize.Size(ssa.Program{Funcs: q.Funcs[j : j+1]}); n > 1000 {
				t.Errorf("%d: a function of %d", i, n)
			}
		}
	}
	partial := sized("g", 3)
	partial.Partial = true
	fails := function("g", 2, block(branch(0, 1, 2)), block(returns(0)), block(graphs.Fails()))
	stuck := function("g", 2, block(graphs.Stuck()))
	for i, g := range []ssa.Func{partial, fails, stuck} {
		if _, l := run(t, ssa.Program{Funcs: []ssa.Func{calls("f", 1, "g"), g}}, optimize.Inline); len(l) > 0 {
			t.Errorf("%d is inlined", i)
		}
	}
	many := ssa.Program{Funcs: []ssa.Func{calls("f", 0, slices.Repeat([]string{"g"}, 60)...), sized("g", 20)}}
	if q, l := run(t, many, optimize.Inline); len(l) != 47 || optimize.Size(ssa.Program{Funcs: q.Funcs[:1]}) != 1000 {
		t.Errorf("%d steps, the size %d", len(l), optimize.Size(q))
	}
	long := function("g", 2)
	for i := range 150 {
		long.Blocks = append(long.Blocks, block(jump(i+1)))
	}
	long.Blocks = append(long.Blocks, block(returns(0)))
	if q, l := run(t, ssa.Program{Funcs: []ssa.Func{calls("f", 0, "g", "g", "g"), long}}, optimize.Inline); len(l) != 2 || len(q.Funcs[0].Blocks) != 305 {
		t.Errorf("%d steps, %d blocks", len(l), len(q.Funcs[0].Blocks))
	}
}

// TestDevirt: calls that reach one function alone.
func TestDevirt(t *testing.T) {
	f := function("f", 2, block(attempt(text(ssa.Call, 3, "m", 1), 1, 2), typed(number(4, 1), name("A")), text(ssa.Call, 2, "n", 4), text(ssa.Call, 5, "m", 0), text(ssa.Call, 6, "n", 4, 4)), block(returns(3)), block(returns(0)))
	f.Params = []api.Type{name("T"), name("B")}
	p := ssa.Program{Entities: graphs.Entities(), Funcs: []ssa.Func{f, function("A.m", 1, block(returns(0))), function("B.m", 1, block(returns(0))), function("A.n", 1, block(returns(0)))}}
	want := ssa.Program{Funcs: slices.Clone(p.Funcs)}
	want.Funcs[0] = function("f", 2, block(attempt(text(ssa.Direct, 3, "B.m", 1), 1, 2), typed(number(4, 1), name("A")), text(ssa.Direct, 2, "A.n", 4), text(ssa.Call, 5, "m", 0), text(ssa.Call, 6, "n", 4, 4)), block(returns(3)), block(returns(0)))
	want.Funcs[0].Params = f.Params
	becomes(t, "calls", optimize.Devirt, p, want, optimize.StepDirect, optimize.StepDirect)
}

// TestObjects: objects that stay, and their fields.
func TestObjects(t *testing.T) {
	get := func(result int, field string, object int) ssa.Ins { return text(ssa.Get, result, field, object) }
	set := func(result int, field string, object, v int) ssa.Ins {
		return text(ssa.Set, result, field, object, v)
	}
	other, met := text(ssa.Make, 10, "A"), text(ssa.Call, 11, "m", 10)
	p := one(block(jump(1), text(ssa.Make, 2, "A"), set(3, "x", 2, 0), get(4, "x", 2), get(5, "y", 2), get(6, "y", 2), set(7, "x", 2, 6), get(9, "x", 2), ins(ssa.Tuple, 8, 4, 5, 6, 9), other, met, get(12, "x", 10), get(13, "x", 10)), block(returns(8), get(14, "x", 2), get(15, "x", 2)))
	want := one(block(jump(1), text(ssa.Make, 2, "A"), set(3, "x", 2, 0), get(5, "y", 2), set(7, "x", 2, 5), ins(ssa.Tuple, 8, 0, 5, 5, 5), other, met, get(12, "x", 10), get(13, "x", 10)), block(returns(8), get(14, "x", 2)))
	becomes(t, "fields", optimize.Forward, p, want, optimize.StepField, optimize.StepField, optimize.StepField, optimize.StepField)
	stays := one(block(want.Funcs[0].Blocks[0].End, slices.Clone(want.Funcs[0].Blocks[0].Ins)...), want.Funcs[0].Blocks[1])
	stays.Funcs[0].Blocks[0].Ins[0].Flag = true
	becomes(t, "objects", optimize.Escape, want, stays, optimize.StepStack)
}

// TestManySteps: there are at most as many steps as a witness may have; the program is whole then.
func TestManySteps(t *testing.T) {
	p := ssa.Program{}
	for i := range 6 {
		f := function("f"+strconv.Itoa(i), 1, block(returns(0)))
		for j := range 4000 {
			f.Blocks[0].Ins = append(f.Blocks[0].Ins, number(1+j, j%256))
		}
		p.Funcs = append(p.Funcs, f)
	}
	q, l := run(t, p, optimize.Dead, optimize.Fold)
	if len(l) != 20000 || optimize.Size(q) != 4000 {
		t.Errorf("%d steps, the size %d", len(l), optimize.Size(q))
	}
	if q, l := run(t, q, optimize.Dead); len(l) != 4000 || optimize.Size(q) != 0 {
		t.Errorf("%d more steps, the size %d", len(l), optimize.Size(q))
	}
}

// TestMemory: the program that is handed in is not changed.
func TestMemory(t *testing.T) {
	build := func() ssa.Program { return graphs.New(77, 9, false).Program(5) }
	p := build()
	q, l := run(t, p, optimize.Usual(3)...)
	for i := range q.Funcs {
		for _, b := range q.Funcs[i].Blocks {
			for j := range b.Ins {
				b.Ins[j] = ssa.Ins{Op: 99}
			}
			for j := range b.End.To {
				b.End.To[j] = 99
			}
		}
	}
	if !alike(p, build()) {
		t.Error("the program was changed")
	}
	if n, e := witness.Check(p, q, l); e != witness.ErrResult || n != len(l) {
		t.Errorf("a changed result: error %d at %d", e, n)
	}
}
